package tests

import (
	"bytes"
	"encoding/hex"
	"fmt"
	"math"
	"strings"
	"testing"

	"loop.example/g00012/impl"
)

func TestCipherLimits(t *testing.T) {
	for _, c := range [][2]int{
		{impl.SecretLen, 16}, {impl.IvLen, 8}, {impl.TagLen, 8}, {impl.MaxPacket, 1500}, {impl.MaxLabel, 32}, {impl.MaxDerived, 64},
	} {
		if c[0] != c[1] {
			t.Errorf("a limit is %d, want %d", c[0], c[1])
		}
	}
}

// wrapped is a number of 32 bits in one of 64: no sum or product of the digest goes beyond these before it is wrapped.
func wrapped(v uint64) uint64 { return v % (1 << 32) }

// turned does not go through a shift by k: the bits are moved one by one.
func turned(x uint64, k int) uint64 {
	for range k {
		x = wrapped(2*x) + x/(1<<31)
	}
	return x
}

func fourBytes(n uint64) []byte {
	return []byte{byte(n / (1 << 24)), byte(n / (1 << 16)), byte(n / (1 << 8)), byte(n)}
}

// digestAsked is the chapter's digest, word by word.
func digestAsked(key, data []byte) []byte {
	a, b, c, d := uint64(1779033703), uint64(3144134277), uint64(1013904242), uint64(2773480762)
	stirred := join(fourBytes(uint64(len(key))), key, data, fourBytes(uint64(len(data))), bytes.Repeat([]byte{165}, 16))
	for _, v := range stirred {
		a = wrapped((a ^ uint64(v)) * 16777619)
		b = turned(wrapped(b+a), 7)
		c = turned(c^b, 13)
		d = turned(wrapped(d+c), 17)
		a = a ^ d
	}
	return join(fourBytes(a), fourBytes(b), fourBytes(c), fourBytes(d))
}

func deriveAsked(secret []byte, label string, n int) []byte {
	if len(secret) != 16 || len(label) > 32 || n < 1 || n > 64 {
		return nil
	}
	var row []byte
	for i := range 4 {
		row = append(row, digestAsked(secret, append([]byte(label), byte(i)))...)
	}
	return row[:n]
}

func keysAsked(secret []byte) impl.Keys {
	return impl.Keys{Secret: secret, Key: deriveAsked(secret, "key", 16), Iv: deriveAsked(secret, "iv", 8), Mask: deriveAsked(secret, "mask", 16)}
}

func nextKeysAsked(k impl.Keys) impl.Keys {
	next := keysAsked(deriveAsked(k.Secret, "next", 16))
	next.Mask = k.Mask
	return next
}

func unhex(t *testing.T, text string) []byte {
	t.Helper()
	b, err := hex.DecodeString(text)
	if err != nil {
		t.Fatal(err)
	}
	return b
}

// rowOf is n bytes of which one hangs on its place, so that none can be taken for its neighbour.
func rowOf(n, step, wrap int) []byte {
	row := make([]byte, n)
	for i := range row {
		row[i] = byte(i * step % wrap)
	}
	return row
}

func (n *numbers) bytes(count int) []byte {
	row := make([]byte, count)
	for i := range row {
		row[i] = byte(n.next())
	}
	return row
}

// countedSecret is 0 1 2 .. 15.
func countedSecret() []byte { return rowOf(impl.SecretLen, 1, 256) }

func checkDigest(t *testing.T, key, data, want []byte) {
	t.Helper()
	if got := impl.Digest(key, data); !bytes.Equal(got, want) {
		t.Errorf("Digest of %d and %d bytes = %x, want %x", len(key), len(data), got, want)
	}
}

func checkDerive(t *testing.T, secret []byte, label string, n int, want []byte) {
	t.Helper()
	if got := impl.Derive(secret, label, n); !bytes.Equal(got, want) {
		t.Errorf("Derive(%x, %q, %d) = %x, want %x", secret, label, n, got, want)
	}
}

func sameKeys(a, b impl.Keys) bool {
	return bytes.Equal(a.Secret, b.Secret) && bytes.Equal(a.Key, b.Key) && bytes.Equal(a.Iv, b.Iv) && bytes.Equal(a.Mask, b.Mask)
}

func checkKeys(t *testing.T, call string, got, want impl.Keys) {
	t.Helper()
	if !sameKeys(got, want) {
		t.Errorf("%s = %x, want %x", call, got, want)
	}
}

// What another program, written from the chapter, answered.
func TestDigestKnown(t *testing.T) {
	for _, c := range []struct {
		key, data []byte
		want      string
	}{
		{nil, nil, "538a79567b2ee419e93a7752a013e12d"},
		{[]byte("key"), []byte("data"), "f0b3352b3ed5057c724a7dfd95747050"},
		{[]byte{255, 255, 255, 255, 255}, []byte{0}, "314f3afa3d909b7462d1be67cdf24f62"},
		{rowOf(300, 1, 256), rowOf(5000, 7, 256), "b3e710b3fd0ca6d802d168a10eb0dcd6"},
		{rowOf(impl.MaxBytes, 1, 251), rowOf(impl.MaxBytes, 1, 241), "0e4a2d0f02f455c7f4c63edf8f7e195c"},
	} {
		want := unhex(t, c.want)
		checkDigest(t, c.key, c.data, want)
		if asked := digestAsked(c.key, c.data); !bytes.Equal(asked, want) {
			t.Errorf("the rule as the tests have it gives %x, want %x", asked, want)
		}
	}
}

func TestDigestAsTheChapterSays(t *testing.T) {
	more := numbers(30)
	for keyLen := range 40 {
		for dataLen := range 40 {
			key, data := more.bytes(keyLen), more.bytes(dataLen)
			checkDigest(t, key, data, digestAsked(key, data))
		}
	}
	for v := range 256 {
		one := []byte{byte(v)}
		checkDigest(t, one, nil, digestAsked(one, nil))
		checkDigest(t, nil, one, digestAsked(nil, one))
	}
	for _, n := range []int{254, 255, 256, 257, 1000, 65535} {
		row := more.bytes(n)
		checkDigest(t, row, nil, digestAsked(row, nil))
		checkDigest(t, nil, row, digestAsked(nil, row))
	}
}

func TestDigestEmptyAndNil(t *testing.T) {
	empty, row := []byte{}, []byte{1, 2, 3}
	for _, list := range [][]byte{nil, empty} {
		checkDigest(t, list, nil, digestAsked(nil, nil))
		checkDigest(t, list, empty, digestAsked(nil, nil))
		checkDigest(t, list, row, digestAsked(nil, row))
		checkDigest(t, row, list, digestAsked(row, nil))
	}
}

func TestDigestLongest(t *testing.T) {
	most, beyond := rowOf(impl.MaxBytes, 3, 251), rowOf(impl.MaxBytes+1, 3, 251)
	checkDigest(t, most, nil, digestAsked(most, nil))
	checkDigest(t, nil, most, digestAsked(nil, most))
	checkDigest(t, most, most, digestAsked(most, most))
	for _, other := range [][]byte{nil, {7}, most, beyond} {
		checkDigest(t, beyond, other, nil)
		checkDigest(t, other, beyond, nil)
	}
}

// A byte that goes from the end of key to the beginning of data, an order turned round, or a 0 more gives another digest.
func TestDigestTellsApart(t *testing.T) {
	row := []byte{1, 2, 3, 4, 0, 0}
	seen := map[string]string{}
	for cut := range len(row) + 1 {
		for end := cut; end <= len(row); end++ {
			name := fmt.Sprintf("%v and %v", row[:cut], row[cut:end])
			sum := string(impl.Digest(row[:cut], row[cut:end]))
			if other, ok := seen[sum]; ok || len(sum) != 16 {
				t.Errorf("%s has the digest %x, as has %q", name, sum, other)
			}
			seen[sum] = name
		}
	}
	if bytes.Equal(impl.Digest([]byte("ab"), []byte("c")), impl.Digest([]byte("c"), []byte("ab"))) {
		t.Error("key and data may be swapped")
	}
}

func TestDeriveKnown(t *testing.T) {
	want := unhex(t, "75600a65d60864763a64c34d8fce5355d3ea0c50e4097846d10046c25ca79679dfc124a2a6cb5875105b03e3b73a7f91dc5bf82d9a5c3a2384eaaf71dbbc0378")
	for n := 1; n <= impl.MaxDerived; n++ {
		checkDerive(t, countedSecret(), "label", n, want[:n])
	}
}

func TestDeriveEdges(t *testing.T) {
	more := numbers(31)
	labels := []string{"", "k", "key", "\x00", "\xff\xfe", "é", strings.Repeat("x", impl.MaxLabel-1), strings.Repeat("y", impl.MaxLabel), strings.Repeat("é", impl.MaxLabel/2)}
	for _, label := range labels {
		for _, n := range []int{1, 2, 15, 16, 17, 31, 32, 33, 47, 48, 49, 63, impl.MaxDerived} {
			secret := more.bytes(impl.SecretLen)
			checkDerive(t, secret, label, n, deriveAsked(secret, label, n))
		}
	}
}

func TestDeriveRefuses(t *testing.T) {
	secret := countedSecret()
	for _, n := range []int{0, -1, -16, impl.MaxDerived + 1, impl.MaxDerived + 2, 80, 257, 1<<32 + 1, math.MinInt, math.MinInt + 1, math.MaxInt - 1, math.MaxInt} {
		checkDerive(t, secret, "key", n, nil)
	}
	for _, count := range []int{0, 1, 8, 15, 17, 32, impl.MaxBytes, impl.MaxBytes + 1} {
		checkDerive(t, rowOf(count, 1, 256), "key", 16, nil)
	}
	checkDerive(t, nil, "key", 16, nil)
	for _, label := range []string{strings.Repeat("x", impl.MaxLabel+1), strings.Repeat("x", 1000), strings.Repeat("é", impl.MaxLabel/2+1), strings.Repeat("é", impl.MaxLabel)} {
		checkDerive(t, secret, label, 16, nil)
	}
	checkDerive(t, nil, strings.Repeat("x", impl.MaxLabel+1), math.MinInt, nil)
}

func TestKeysKnown(t *testing.T) {
	k := impl.Keys{
		Secret: countedSecret(),
		Key:    unhex(t, "219533932fae4275df58dbecebb3f1da"),
		Iv:     unhex(t, "7a32b49a20dd5195"),
		Mask:   unhex(t, "c768bb0589d2c4bfed682b39d2cf5834"),
	}
	next := impl.Keys{
		Secret: unhex(t, "145fb20056fc36b4e8dc8e9fc8f355f6"),
		Key:    unhex(t, "902c73da7900c5b23f4c85488ed94e39"),
		Iv:     unhex(t, "5d1983597295d758"),
		Mask:   k.Mask,
	}
	checkKeys(t, "KeysOf", impl.KeysOf(countedSecret()), k)
	checkKeys(t, "NextKeys", impl.NextKeys(k), next)
}

func TestKeysAsTheChapterSays(t *testing.T) {
	more := numbers(32)
	for range 50 {
		secret := more.bytes(impl.SecretLen)
		want := keysAsked(secret)
		checkKeys(t, "KeysOf", impl.KeysOf(secret), want)
		for range 3 {
			next := nextKeysAsked(want)
			checkKeys(t, "NextKeys", impl.NextKeys(want), next)
			want = next
		}
	}
}

// Keys need not be those of their secret: what is behind them hangs on Secret and Mask alone.
func TestNextKeysOfAnyParts(t *testing.T) {
	more := numbers(33)
	for range 50 {
		k := impl.Keys{Secret: more.bytes(16), Key: more.bytes(16), Iv: more.bytes(8), Mask: more.bytes(16)}
		checkKeys(t, "NextKeys", impl.NextKeys(k), nextKeysAsked(k))
	}
}

func TestKeysOfRefuses(t *testing.T) {
	for _, count := range []int{0, 1, 8, 15, 17, 32, impl.MaxBytes, impl.MaxBytes + 1} {
		checkKeys(t, fmt.Sprintf("KeysOf %d bytes", count), impl.KeysOf(rowOf(count, 1, 256)), impl.Keys{})
	}
	checkKeys(t, "KeysOf nil", impl.KeysOf(nil), impl.Keys{})
}

// wrongKeys are keys of which one part, each in its turn, has a wrong length.
func wrongKeys() []impl.Keys {
	good := keysAsked(countedSecret())
	list := []impl.Keys{{}, {Secret: good.Secret}, {Key: good.Key, Iv: good.Iv, Mask: good.Mask}}
	for part := range 4 {
		for _, count := range []int{0, 1, 7, 8, 9, 15, 16, 17, 24, 32, impl.MaxBytes + 1} {
			k, row := good, rowOf(count, 5, 256)
			own := 16
			switch part {
			case 0:
				k.Secret = row
			case 1:
				k.Key = row
			case 2:
				k.Mask = row
			case 3:
				k.Iv, own = row, 8
			}
			if count != own {
				list = append(list, k)
			}
		}
	}
	swapped := good
	swapped.Iv, swapped.Mask = good.Mask, good.Iv
	return append(list, swapped)
}

func TestNextKeysRefuses(t *testing.T) {
	for _, k := range wrongKeys() {
		checkKeys(t, fmt.Sprintf("NextKeys of %d %d %d %d bytes", len(k.Secret), len(k.Key), len(k.Iv), len(k.Mask)), impl.NextKeys(k), impl.Keys{})
	}
}

func checkHeadMask(t *testing.T, k impl.Keys, sample, want []byte) {
	t.Helper()
	if got := impl.HeadMask(k, sample); !bytes.Equal(got, want) {
		t.Errorf("HeadMask(%x, %x) = %x, want %x", k, sample, got, want)
	}
}

func TestHeadMask(t *testing.T) {
	checkHeadMask(t, keysAsked(countedSecret()), []byte("12345678"), unhex(t, "9e76333a1a"))
	more := numbers(34)
	for range 100 {
		k := impl.Keys{Secret: more.bytes(16), Key: more.bytes(16), Iv: more.bytes(8), Mask: more.bytes(16)}
		sample := more.bytes(8)
		want := digestAsked(k.Mask, sample)[:5]
		checkHeadMask(t, k, sample, want)
		checkHeadMask(t, nextKeysAsked(k), sample, want)
	}
}

func TestHeadMaskRefuses(t *testing.T) {
	good := keysAsked(countedSecret())
	for _, count := range []int{0, 1, 5, 7, 9, 16, impl.MaxBytes, impl.MaxBytes + 1} {
		checkHeadMask(t, good, rowOf(count, 1, 256), nil)
	}
	checkHeadMask(t, good, nil, nil)
	for _, k := range wrongKeys() {
		checkHeadMask(t, k, []byte("12345678"), nil)
		checkHeadMask(t, k, []byte("1234567"), nil)
	}
}
