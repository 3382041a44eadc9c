package tests

import (
	"bytes"
	"fmt"
	"math"
	"slices"
	"testing"

	"loop.example/g00012/impl"
)

func laidOver(a, b []byte) []byte {
	out := slices.Clone(a)
	for i := range out {
		out[i] ^= b[i]
	}
	return out
}

// sealAsked is the chapter's rule of Seal, word by word.
func sealAsked(k impl.Keys, num int, head, body []byte) []byte {
	nonce := laidOver(k.Iv, join(fourBytes(uint64(num)/(1<<32)), fourBytes(uint64(num))))
	var stream []byte
	for j := uint64(0); len(stream) < len(body); j++ {
		stream = append(stream, digestAsked(k.Key, join(nonce, fourBytes(j)))...)
	}
	covered := laidOver(body, stream)
	tag := digestAsked(k.Key, join(nonce, []byte{255, 255, 255, 255}, fourBytes(uint64(len(head))), head, covered))[:8]
	return join(covered, tag)
}

func checkSeal(t *testing.T, k impl.Keys, num int, head, body, want []byte, code int) {
	t.Helper()
	got, gotCode := impl.Seal(k, num, head, body)
	if gotCode != code || !bytes.Equal(got, want) {
		t.Errorf("Seal of number %d, %d bytes of head and %d of body = %x %d, want %x %d", num, len(head), len(body), got, gotCode, want, code)
	}
}

func checkOpen(t *testing.T, k impl.Keys, num int, head, sealed, want []byte, code int) {
	t.Helper()
	got, gotCode := impl.OpenSealed(k, num, head, sealed)
	if gotCode != code || !bytes.Equal(got, want) {
		t.Errorf("OpenSealed of number %d, %d bytes of head and %d sealed = %x %d, want %x %d", num, len(head), len(sealed), got, gotCode, want, code)
	}
}

// checkBothWays asks for the sealed text by the rule, and for the body back.
func checkBothWays(t *testing.T, k impl.Keys, num int, head, body []byte) {
	t.Helper()
	want := sealAsked(k, num, head, body)
	checkSeal(t, k, num, head, body, want, impl.OK)
	checkOpen(t, k, num, head, want, body, impl.OK)
}

func TestP4SealKnown(t *testing.T) {
	k := keysAsked(countedSecret())
	body := []byte("a body of more than one block")
	sealed := unhex(t, "842e6028329455e2b8d56a7f10198c1b53333153479560961f1b2050b4a7f8df029871f3df")
	checkSeal(t, k, 0x0123456789abcdef, []byte("head"), body, sealed, impl.OK)
	checkOpen(t, k, 0x0123456789abcdef, []byte("head"), sealed, body, impl.OK)
	checkSeal(t, k, 0, nil, nil, unhex(t, "a7c7ef26ae265fdb"), impl.OK)
	checkOpen(t, k, 0, nil, unhex(t, "a7c7ef26ae265fdb"), nil, impl.OK)
}

// Bodies that end with a block, and one beside; the numbers in which each of the eight bytes is met.
func TestP4SealEdges(t *testing.T) {
	more := numbers(40)
	nums := []int{0, 1, 255, 256, 65536, 1<<32 - 1, 1 << 32, 1 << 56, 0x0102030405060708, maxVar - 1, maxVar}
	for _, count := range []int{0, 1, 2, 15, 16, 17, 31, 32, 33, 63, 64, 65, 1487, 1488, 1489} {
		for _, num := range nums {
			checkBothWays(t, keysAsked(more.bytes(16)), num, more.bytes(more.below(12)), more.bytes(count))
		}
	}
}

func TestP4SealEmpty(t *testing.T) {
	k, row := keysAsked(countedSecret()), []byte{1, 2, 3}
	for _, list := range [][]byte{nil, {}} {
		checkBothWays(t, k, 5, list, nil)
		checkBothWays(t, k, 5, list, []byte{})
		checkBothWays(t, k, 5, list, row)
		checkBothWays(t, k, 5, row, list)
	}
}

func TestP4SealLongest(t *testing.T) {
	k := keysAsked(countedSecret())
	for _, headLen := range []int{0, 1, 15, 16, 750, 1484, 1499, 1500} {
		head := rowOf(headLen, 3, 256)
		checkBothWays(t, k, 9, head, rowOf(impl.MaxPacket-headLen, 5, 256))
		checkSeal(t, k, 9, head, rowOf(impl.MaxPacket-headLen+1, 5, 256), nil, impl.ErrLong)
	}
	checkSeal(t, k, 9, rowOf(1501, 3, 256), nil, nil, impl.ErrLong)
	checkSeal(t, k, 9, rowOf(impl.MaxBytes+1, 3, 256), rowOf(impl.MaxBytes+1, 3, 256), nil, impl.ErrLong)
}

func TestP4Drawn(t *testing.T) {
	more := numbers(41)
	for range 400 {
		secret, num := more.bytes(16), more.variable()
		head := more.bytes(more.below(60))
		body := more.bytes(more.below(200))
		k := impl.KeysOf(secret)
		for range more.below(3) {
			k = impl.NextKeys(k)
		}
		sealed, code := impl.Seal(k, num, head, body)
		if code != impl.OK || len(sealed) != len(body)+impl.TagLen {
			t.Fatalf("Seal = %d bytes, %d", len(sealed), code)
		}
		checkOpen(t, k, num, head, sealed, body, impl.OK)
	}
}

// Secret and Mask have no part in sealing, Key and Iv have.
func TestP4SealHangsOnKeyAndIv(t *testing.T) {
	more := numbers(42)
	k := keysAsked(countedSecret())
	head, body := []byte("head"), []byte("a body of some bytes")
	sealed := sealAsked(k, 3, head, body)
	same := k
	same.Secret, same.Mask = more.bytes(16), more.bytes(16)
	checkSeal(t, same, 3, head, body, sealed, impl.OK)
	checkOpen(t, same, 3, head, sealed, body, impl.OK)
	for i := range 16 {
		other := k
		other.Key = slices.Clone(k.Key)
		other.Key[i] ^= 1
		checkOpen(t, other, 3, head, sealed, nil, impl.ErrKey)
		other = k
		other.Iv = slices.Clone(k.Iv)
		other.Iv[i%8] ^= 128
		checkOpen(t, other, 3, head, sealed, nil, impl.ErrKey)
	}
}

func TestOpenSealedLongest(t *testing.T) {
	k := keysAsked(countedSecret())
	most := impl.MaxPacket + impl.TagLen
	for _, headLen := range []int{0, 1, 700, 1499, 1500} {
		head, body := rowOf(headLen, 3, 256), rowOf(impl.MaxPacket-headLen, 5, 256)
		sealed := sealAsked(k, 9, head, body)
		checkOpen(t, k, 9, head, sealed, body, impl.OK)
		checkOpen(t, k, 9, head, append(sealed, 0), nil, impl.ErrLong)
		// A text that would open if it were not too long.
		longBody := append(body, 1)
		checkOpen(t, k, 9, head, sealAsked(k, 9, head, longBody), nil, impl.ErrLong)
	}
	checkOpen(t, k, 9, rowOf(most-8, 3, 256), rowOf(8, 5, 256), nil, impl.ErrKey)
	checkOpen(t, k, 9, rowOf(most-7, 3, 256), rowOf(8, 5, 256), nil, impl.ErrLong)
	checkOpen(t, k, 9, rowOf(most, 3, 256), nil, nil, impl.ErrShort)
	checkOpen(t, k, 9, rowOf(most+1, 3, 256), nil, nil, impl.ErrLong)
	checkOpen(t, k, 9, nil, rowOf(impl.MaxBytes+1, 3, 256), nil, impl.ErrLong)
}

func TestOpenSealedShort(t *testing.T) {
	k := keysAsked(countedSecret())
	head := []byte("head")
	tag := sealAsked(k, 1, head, nil)
	checkOpen(t, k, 1, head, tag, nil, impl.OK)
	for n := range impl.TagLen {
		checkOpen(t, k, 1, head, tag[:n], nil, impl.ErrShort)
	}
	checkOpen(t, k, 1, head, nil, nil, impl.ErrShort)
	checkOpen(t, k, 1, head, []byte{}, nil, impl.ErrShort)
	checkOpen(t, k, 1, nil, tag, nil, impl.ErrKey)
}

func TestOpenSealedAnyByteChanged(t *testing.T) {
	k := keysAsked(countedSecret())
	head := []byte("some head")
	for _, count := range []int{0, 1, 16, 17, 40} {
		body := rowOf(count, 11, 256)
		sealed := sealAsked(k, 12, head, body)
		for i := range sealed {
			for _, flip := range []byte{1, 2, 16, 128, 255} {
				changed := slices.Clone(sealed)
				changed[i] ^= flip
				checkOpen(t, k, 12, head, changed, nil, impl.ErrKey)
			}
		}
		for n := impl.TagLen; n < len(sealed); n++ {
			checkOpen(t, k, 12, head, sealed[:n], nil, impl.ErrKey)
		}
		checkOpen(t, k, 12, head, append([]byte{0}, sealed...), nil, impl.ErrKey)
		checkOpen(t, k, 12, head, join(sealed, []byte{0}), nil, impl.ErrKey)
	}
}

func TestOpenSealedAnotherNumber(t *testing.T) {
	k := keysAsked(countedSecret())
	for _, body := range [][]byte{nil, []byte("a body")} {
		sealed := sealAsked(k, 700, nil, body)
		for shift := range 62 {
			checkOpen(t, k, 700^(1<<shift), nil, sealed, nil, impl.ErrKey)
		}
		for _, num := range []int{0, 699, 701, maxVar} {
			checkOpen(t, k, num, nil, sealed, nil, impl.ErrKey)
		}
	}
}

func TestOpenSealedAnotherHead(t *testing.T) {
	k := keysAsked(countedSecret())
	head, body := []byte("the head"), []byte("the body")
	sealed := sealAsked(k, 7, head, body)
	for i := range head {
		changed := slices.Clone(head)
		changed[i] ^= 32
		checkOpen(t, k, 7, changed, sealed, nil, impl.ErrKey)
		checkOpen(t, k, 7, head[:i], sealed, nil, impl.ErrKey)
	}
	checkOpen(t, k, 7, append(slices.Clone(head), 0), sealed, nil, impl.ErrKey)
	checkOpen(t, k, 7, append([]byte{0}, head...), sealed, nil, impl.ErrKey)
	// A byte that goes from the sealed text to the head: the count of the head tells it.
	checkOpen(t, k, 7, append(slices.Clone(head), sealed[0]), sealed[1:], nil, impl.ErrKey)
	checkOpen(t, k, 7, head[:7], append([]byte{head[7]}, sealed...), nil, impl.ErrKey)
}

func TestOpenSealedOtherKeys(t *testing.T) {
	k := impl.KeysOf(countedSecret())
	next := impl.NextKeys(k)
	head, body := []byte("head"), []byte("body")
	for _, keys := range [][2]impl.Keys{{k, next}, {next, k}, {next, impl.NextKeys(next)}, {k, impl.KeysOf(rowOf(16, 2, 256))}} {
		sealed := sealAsked(keys[0], 2, head, body)
		checkOpen(t, keys[0], 2, head, sealed, body, impl.OK)
		checkOpen(t, keys[1], 2, head, sealed, nil, impl.ErrKey)
	}
}

func wrongNums() []int {
	return []int{-1, -2, -256, maxVar + 1, maxVar + 2, math.MinInt, math.MinInt + 1, math.MaxInt - 1, math.MaxInt}
}

func TestSealRefuses(t *testing.T) {
	good := keysAsked(countedSecret())
	head, body := []byte("head"), []byte("body")
	sealed := sealAsked(good, 4, head, body)
	for _, num := range wrongNums() {
		checkSeal(t, good, num, head, body, nil, impl.ErrBad)
		checkOpen(t, good, num, head, sealed, nil, impl.ErrBad)
		checkOpen(t, good, num, head, sealAsked(good, num, head, body), nil, impl.ErrBad)
	}
	for _, k := range wrongKeys() {
		checkSeal(t, k, 4, head, body, nil, impl.ErrBad)
		checkOpen(t, k, 4, head, sealed, nil, impl.ErrBad)
	}
}

// Two faults at once: keys and number are ahead of the length, the length is ahead of the tag's want, that is ahead of the key.
func TestSealOrderOfCodes(t *testing.T) {
	good := keysAsked(countedSecret())
	long, far, short := rowOf(1600, 1, 256), rowOf(impl.MaxBytes+1, 1, 256), []byte{1, 2, 3}
	for _, num := range wrongNums() {
		for _, text := range [][]byte{long, far, short, nil} {
			checkSeal(t, good, num, text, text, nil, impl.ErrBad)
			checkOpen(t, good, num, nil, text, nil, impl.ErrBad)
			checkOpen(t, good, num, text, text, nil, impl.ErrBad)
		}
	}
	for _, k := range wrongKeys() {
		for _, text := range [][]byte{long, far, short, nil} {
			checkSeal(t, k, 0, text, text, nil, impl.ErrBad)
			checkSeal(t, k, -1, text, text, nil, impl.ErrBad)
			checkOpen(t, k, 0, nil, text, nil, impl.ErrBad)
			checkOpen(t, k, -1, text, text, nil, impl.ErrBad)
		}
	}
	checkOpen(t, good, 0, long, short, nil, impl.ErrLong)
	checkOpen(t, good, 0, long, nil, nil, impl.ErrLong)
	checkOpen(t, good, 0, long, long, nil, impl.ErrLong)
	checkOpen(t, good, 0, []byte("another head"), short, nil, impl.ErrShort)
}

type fencedKeys struct {
	keys  impl.Keys
	parts []fenced[byte]
}

func fenceKeys(k impl.Keys) fencedKeys {
	parts := []fenced[byte]{fence(k.Secret, 90), fence(k.Key, 91), fence(k.Iv, 92), fence(k.Mask, 93)}
	return fencedKeys{impl.Keys{Secret: parts[0].list, Key: parts[1].list, Iv: parts[2].list, Mask: parts[3].list}, parts}
}

func (f fencedKeys) check(t *testing.T, call string) {
	t.Helper()
	for _, part := range f.parts {
		part.check(t, call)
	}
}

// spoil writes over a list and over the room behind its end: what shares memory with it is changed.
func spoil(list []byte) {
	whole := list[:cap(list)]
	for i := range whole {
		whole[i] ^= 0x5a
	}
}

// checkFresh asks a call twice, spoiling each list of the first answer: no other list, no argument and no later answer may change.
func checkFresh(t *testing.T, call string, ask func() [][]byte, unchanged func()) {
	t.Helper()
	first := ask()
	var before [][]byte
	for _, list := range first {
		before = append(before, slices.Clone(list))
	}
	for i, list := range first {
		spoil(list)
		for j := range first {
			if j != i && !bytes.Equal(first[j], before[j]) {
				t.Errorf("%s: list %d shares memory with list %d", call, i, j)
			}
		}
		unchanged()
		for j, again := range ask() {
			if !bytes.Equal(again, before[j]) {
				t.Errorf("%s: a later answer is %x, want %x", call, again, before[j])
			}
		}
		copy(list, before[i])
	}
}

func listsOf(k impl.Keys) [][]byte { return [][]byte{k.Secret, k.Key, k.Iv, k.Mask} }

func TestP1DigestAndDeriveMemory(t *testing.T) {
	more := numbers(50)
	for _, count := range []int{0, 1, 16, 40} {
		key, data := fence(more.bytes(count), 77), fence(more.bytes(count), 78)
		checkFresh(t, "Digest", func() [][]byte { return [][]byte{impl.Digest(key.list, data.list)} }, func() {
			key.check(t, "Digest")
			data.check(t, "Digest")
		})
	}
	for _, n := range []int{-1, 1, 8, 16, 17, 64, 65} {
		secret := fence(more.bytes(16), 77)
		checkFresh(t, "Derive", func() [][]byte { return [][]byte{impl.Derive(secret.list, "label", n)} }, func() { secret.check(t, "Derive") })
	}
}

func TestP1KeysMemory(t *testing.T) {
	more := numbers(51)
	for _, count := range []int{15, 16, 17} {
		secret := fence(more.bytes(count), 77)
		checkFresh(t, "KeysOf", func() [][]byte { return listsOf(impl.KeysOf(secret.list)) }, func() { secret.check(t, "KeysOf") })
	}
	for _, plain := range append(wrongKeys(), keysAsked(more.bytes(16))) {
		k := fenceKeys(plain)
		checkFresh(t, "NextKeys", func() [][]byte { return listsOf(impl.NextKeys(k.keys)) }, func() { k.check(t, "NextKeys") })
		sample := fence(more.bytes(8), 77)
		checkFresh(t, "HeadMask", func() [][]byte { return [][]byte{impl.HeadMask(k.keys, sample.list)} }, func() {
			k.check(t, "HeadMask")
			sample.check(t, "HeadMask")
		})
	}
}

func TestP1SealMemory(t *testing.T) {
	more := numbers(52)
	for _, count := range []int{0, 1, 15, 16, 17, 40, 1400, 1600} {
		plain := keysAsked(more.bytes(16))
		k, head, body := fenceKeys(plain), fence(more.bytes(9), 77), fence(more.bytes(count), 78)
		checkFresh(t, "Seal", func() [][]byte {
			sealed, _ := impl.Seal(k.keys, 6, head.list, body.list)
			return [][]byte{sealed}
		}, func() {
			k.check(t, "Seal")
			head.check(t, "Seal")
			body.check(t, "Seal")
		})
		for _, text := range [][]byte{sealAsked(plain, 6, head.list, body.list), body.list} {
			sealed := fence(text, 79)
			checkFresh(t, "OpenSealed", func() [][]byte {
				opened, _ := impl.OpenSealed(k.keys, 6, head.list, sealed.list)
				return [][]byte{opened}
			}, func() {
				k.check(t, "OpenSealed")
				head.check(t, "OpenSealed")
				sealed.check(t, "OpenSealed")
			})
		}
	}
}

// One list handed in as several arguments is read as each of them.
func TestP1OneListTwice(t *testing.T) {
	row := fence(countedSecret(), 77)
	checkDigest(t, row.list, row.list, digestAsked(countedSecret(), countedSecret()))
	k := impl.Keys{Secret: row.list, Key: row.list, Iv: row.list[:8], Mask: row.list}
	checkBothWays(t, k, 3, row.list, row.list)
	checkHeadMask(t, k, row.list[8:], digestAsked(countedSecret(), countedSecret()[8:])[:5])
	checkKeys(t, "NextKeys", impl.NextKeys(k), nextKeysAsked(k))
	checkFresh(t, "NextKeys", func() [][]byte { return listsOf(impl.NextKeys(k)) }, func() { row.check(t, "NextKeys") })
}

func checkAnyNumber(t *testing.T, k impl.Keys, num int) {
	t.Helper()
	head, body := []byte{1}, []byte{2, 3}
	sealed := sealAsked(k, num, head, body)
	if inRange(num, 0, maxVar) {
		checkBothWays(t, k, num, head, body)
		return
	}
	checkSeal(t, k, num, head, body, nil, impl.ErrBad)
	checkOpen(t, k, num, head, sealed, nil, impl.ErrBad)
}

func TestP1CipherTakesAnyIntegers(t *testing.T) {
	secret := countedSecret()
	k := keysAsked(secret)
	for _, v := range append(oddInts(), maxVar-1, maxVar, maxVar+1, 0, -1) {
		mustEnd(t, fmt.Sprintf("Derive of %d bytes", v), func() { checkDerive(t, secret, "key", v, deriveAsked(secret, "key", v)) })
		mustEnd(t, fmt.Sprintf("number %d", v), func() { checkAnyNumber(t, k, v) })
	}
}

func TestP1CipherTakesAnyLengths(t *testing.T) {
	for _, a := range []int{0, 1, 7, 8, 9, 15, 16, 17, 1500, 1501, 1508, 1509, impl.MaxBytes, impl.MaxBytes + 1} {
		for _, b := range []int{0, 1, 7, 8, 9, 15, 16, 17, 1500, 1501, 1508, 1509} {
			x, y := rowOf(a, 3, 256), rowOf(b, 5, 256)
			mustEnd(t, fmt.Sprintf("lengths %d and %d", a, b), func() {
				k := impl.Keys{Secret: x, Key: y, Iv: y, Mask: x}
				impl.Digest(x, y)
				impl.Derive(x, string(y), b)
				impl.KeysOf(x)
				impl.NextKeys(k)
				impl.HeadMask(k, y)
				impl.Seal(k, a, x, y)
				impl.OpenSealed(k, a, x, y)
				impl.Seal(impl.KeysOf(countedSecret()), a, x, y)
				impl.OpenSealed(impl.KeysOf(countedSecret()), a, x, y)
				impl.HeadMask(impl.KeysOf(countedSecret()), x)
			})
		}
	}
}
