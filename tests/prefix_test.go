package tests

import (
	"bytes"
	"fmt"
	"math/big"
	"slices"
	"testing"

	"loop.example/g00012/impl"
)

// powerOf is 2 to the bits.
func powerOf(bits int) int {
	power := 1
	for range bits {
		power *= 2
	}
	return power
}

func putPrefixAsked(v, bits, high int) ([]byte, int) {
	if !inRange(v, 0, maxVar) || !inRange(bits, 1, 8) || !inRange(high, 0, 255) || high%powerOf(bits) != 0 {
		return nil, impl.ErrBad
	}
	top := powerOf(bits) - 1
	if v < top {
		return []byte{byte(high + v)}, impl.OK
	}
	out, rest := []byte{byte(high + top)}, v-top
	for rest > 127 {
		out, rest = append(out, byte(128+rest%128)), rest/128
	}
	return append(out, byte(rest)), impl.OK
}

func getPrefixAsked(b []byte, at, bits int) (int, int, int) {
	if len(b) > 65536 {
		return 0, 0, impl.ErrLong
	}
	if !inRange(bits, 1, 8) || !inRange(at, 0, len(b)) {
		return 0, 0, impl.ErrBad
	}
	if at == len(b) {
		return 0, 0, impl.ErrShort
	}
	top := powerOf(bits) - 1
	first := int(b[at]) % (top + 1)
	if first < top {
		return first, at + 1, impl.OK
	}
	sum, worth := big.NewInt(int64(top)), big.NewInt(1)
	for i := 1; at+i < len(b); i++ {
		c := int(b[at+i])
		sum.Add(sum, times(worth, big.NewInt(int64(c%128))))
		if sum.Cmp(big.NewInt(maxVar)) > 0 || i == 10 && c >= 128 {
			return 0, 0, impl.ErrForm
		}
		if c < 128 {
			return int(sum.Int64()), at + i + 1, impl.OK
		}
		worth = times(worth, big.NewInt(128))
	}
	return 0, 0, impl.ErrShort
}

func checkPutPrefix(t *testing.T, v, bits, high int, want []byte, code int) {
	t.Helper()
	got, gotCode := impl.PutPrefix(v, bits, high)
	if gotCode != code || !bytes.Equal(got, want) {
		t.Errorf("PutPrefix(%d, %d, %d) = %v %d, want %v %d", v, bits, high, got, gotCode, want, code)
	}
	if asked, askedCode := putPrefixAsked(v, bits, high); askedCode != code || !bytes.Equal(asked, want) {
		t.Errorf("PutPrefix(%d, %d, %d): asked is %v %d, want %v %d", v, bits, high, asked, askedCode, want, code)
	}
}

func checkPutPrefixAsked(t *testing.T, v, bits, high int) {
	t.Helper()
	want, code := putPrefixAsked(v, bits, high)
	checkPutPrefix(t, v, bits, high, want, code)
}

func checkGetPrefix(t *testing.T, b []byte, at, bits, v, next, code int) {
	t.Helper()
	gotV, gotNext, gotCode := impl.GetPrefix(b, at, bits)
	if gotV != v || gotNext != next || gotCode != code {
		t.Errorf("GetPrefix(%x.., %d, %d) of %d bytes = %d %d %d, want %d %d %d", b[:min(len(b), 20)], at, bits, len(b), gotV, gotNext, gotCode, v, next, code)
	}
	if askedV, askedNext, askedCode := getPrefixAsked(b, at, bits); askedV != v || askedNext != next || askedCode != code {
		t.Errorf("GetPrefix(%x.., %d, %d) of %d bytes: asked is %d %d %d, want %d %d %d", b[:min(len(b), 20)], at, bits, len(b), askedV, askedNext, askedCode, v, next, code)
	}
}

func checkGetPrefixAsked(t *testing.T, b []byte, at, bits int) int {
	t.Helper()
	v, next, code := getPrefixAsked(b, at, bits)
	checkGetPrefix(t, b, at, bits, v, next, code)
	return code
}

func TestPrefixWorkedOut(t *testing.T) {
	for _, c := range []struct {
		v, bits, high int
		want          []byte
	}{
		{0, 1, 0, []byte{0}}, {0, 1, 254, []byte{254}}, {1, 1, 0, []byte{1, 0}}, {1, 1, 254, []byte{255, 0}}, {2, 1, 2, []byte{3, 1}},
		{2, 2, 0, []byte{2}}, {3, 2, 252, []byte{255, 0}}, {130, 2, 4, []byte{7, 127}}, {131, 2, 4, []byte{7, 128, 1}},
		{62, 6, 192, []byte{254}}, {63, 6, 192, []byte{255, 0}}, {64, 6, 128, []byte{191, 1}},
		{126, 7, 0, []byte{126}}, {127, 7, 0, []byte{127, 0}}, {128, 7, 128, []byte{255, 1}}, {1024, 7, 0, []byte{127, 129, 7}},
		{254, 8, 0, []byte{254}}, {255, 8, 0, []byte{255, 0}}, {256, 8, 0, []byte{255, 1}}, {382, 8, 0, []byte{255, 127}}, {383, 8, 0, []byte{255, 128, 1}},
		{31 + 16383, 5, 64, []byte{95, 255, 127}}, {31 + 16384, 5, 64, []byte{95, 128, 128, 1}},
		{maxVar, 1, 0, []byte{1, 254, 255, 255, 255, 255, 255, 255, 255, 63}},
		{maxVar, 5, 0, []byte{31, 224, 255, 255, 255, 255, 255, 255, 255, 63}},
		{maxVar, 8, 0, []byte{255, 128, 254, 255, 255, 255, 255, 255, 255, 63}},
		{maxVar - 1, 7, 128, []byte{255, 255, 254, 255, 255, 255, 255, 255, 255, 63}},
	} {
		checkPutPrefix(t, c.v, c.bits, c.high, c.want, impl.OK)
		checkGetPrefix(t, c.want, 0, c.bits, c.v, len(c.want), impl.OK)
	}
}

// prefixNumbers are those at which a number needs one byte more, and their neighbours.
func prefixNumbers(bits int) []int {
	top := powerOf(bits) - 1
	list := []int{0, 1, top - 1, top, top + 1, maxVar - 1, maxVar}
	for worth := 128; worth <= maxVar/128; worth *= 128 {
		list = append(list, top+worth-1, top+worth, top+worth+1)
	}
	return slices.DeleteFunc(list, func(v int) bool { return v < 0 })
}

// prefixLen is how many bytes a number stands in, by the chapter.
func prefixLen(v, bits int) int {
	top := powerOf(bits) - 1
	if v < top {
		return 1
	}
	n := 2
	for rest := v - top; rest > 127; rest /= 128 {
		n++
	}
	return n
}

// checkPrefixBack writes a number and reads it again, at a place and under all high bits that there are.
func checkPrefixBack(t *testing.T, v, bits int, more *numbers) {
	t.Helper()
	for high := 0; high < 256; high += powerOf(bits) {
		b, code := impl.PutPrefix(v, bits, high)
		if code != impl.OK || len(b) != prefixLen(v, bits) {
			t.Fatalf("PutPrefix(%d, %d, %d) = %x %d, want %d bytes", v, bits, high, b, code, prefixLen(v, bits))
		}
		if int(b[0])/powerOf(bits)*powerOf(bits) != high {
			t.Fatalf("PutPrefix(%d, %d, %d) = %x: other high bits", v, bits, high, b)
		}
		ahead, behind := more.bytes(more.below(4)), more.bytes(more.below(4))
		whole := join(ahead, b, behind)
		got, next, code := impl.GetPrefix(whole, len(ahead), bits)
		if got != v || next != len(ahead)+len(b) || code != impl.OK {
			t.Fatalf("GetPrefix(%x, %d, %d) = %d %d %d, want %d", whole, len(ahead), bits, got, next, code, v)
		}
	}
}

func TestP2Prefixes(t *testing.T) {
	more := numbers(14)
	for bits := 1; bits <= 8; bits++ {
		for _, v := range prefixNumbers(bits) {
			checkPrefixBack(t, v, bits, &more)
		}
		for v := range 1000 {
			checkPrefixBack(t, v, bits, &more)
		}
		for range 300 {
			checkPrefixBack(t, more.variable(), bits, &more)
		}
	}
}

func TestPutPrefixEdges(t *testing.T) {
	for bits := -2; bits <= 11; bits++ {
		for high := -2; high <= 260; high++ {
			for _, v := range []int{0, 1, 30, 31, 255, -1, maxVar, maxVar + 1} {
				checkPutPrefixAsked(t, v, bits, high)
			}
		}
		for _, v := range append(prefixNumbers(min(max(bits, 1), 8)), oddInts()...) {
			checkPutPrefixAsked(t, v, bits, 0)
		}
	}
	for _, odd := range oddInts() {
		checkPutPrefixAsked(t, 5, odd, 0)
		checkPutPrefixAsked(t, 5, 5, odd)
		checkPutPrefixAsked(t, odd, odd, odd)
	}
}

func TestPutPrefixWrong(t *testing.T) {
	for _, c := range [][3]int{
		{-1, 5, 0}, {maxVar + 1, 5, 0}, {1, 0, 0}, {1, 9, 0}, {1, -1, 0}, {1, 5, 1}, {1, 5, 16}, {1, 5, 31}, {1, 5, 33}, {1, 5, 255}, {1, 5, 256}, {1, 5, -1}, {1, 5, -32},
		{1, 1, 255}, {1, 1, 256}, {1, 8, 255}, {1, 8, 256}, {1, 8, 128}, {1, 7, 64}, {0, 64, 0}, {0, -64, 0},
	} {
		checkPutPrefix(t, c[0], c[1], c[2], nil, impl.ErrBad)
	}
}

func TestGetPrefixCut(t *testing.T) {
	for bits := 1; bits <= 8; bits++ {
		for _, v := range prefixNumbers(bits) {
			b, _ := putPrefixAsked(v, bits, 0)
			for n := range len(b) {
				checkGetPrefix(t, b[:n], 0, bits, 0, 0, impl.ErrShort)
				checkGetPrefix(t, join([]byte{9, 9}, b[:n]), 2, bits, 0, 0, impl.ErrShort)
			}
			checkGetPrefix(t, join([]byte{9, 9}, b), 2, bits, v, 2+len(b), impl.OK)
		}
	}
}

func TestGetPrefixPlaces(t *testing.T) {
	b := []byte{31, 154, 10, 7}
	for bits := -1; bits <= 10; bits++ {
		for at := -2; at <= 6; at++ {
			checkGetPrefixAsked(t, b, at, bits)
		}
		for _, odd := range oddInts() {
			checkGetPrefixAsked(t, b, odd, bits)
			checkGetPrefixAsked(t, b, 0, odd)
		}
	}
	checkGetPrefix(t, b, 0, 5, 1337, 3, impl.OK)
	checkGetPrefix(t, b, 3, 5, 7, 4, impl.OK)
	checkGetPrefix(t, b, 4, 5, 0, 0, impl.ErrShort)
	checkGetPrefix(t, b, 5, 5, 0, 0, impl.ErrBad)
	checkGetPrefix(t, b, -1, 5, 0, 0, impl.ErrBad)
	checkGetPrefix(t, b, 4, 0, 0, 0, impl.ErrBad)
	checkGetPrefix(t, b, 4, 9, 0, 0, impl.ErrBad)
	checkGetPrefix(t, nil, 0, 5, 0, 0, impl.ErrShort)
	checkGetPrefix(t, nil, 1, 5, 0, 0, impl.ErrBad)
}

// longerPrefix has the number in so many bytes behind the first one: the last pieces are 0.
func longerPrefix(v, bits, pieces int) []byte {
	b, _ := putPrefixAsked(v, bits, 0)
	for len(b)-1 < pieces {
		b[len(b)-1] += 128
		b = append(b, 0)
	}
	return b
}

func TestGetPrefixLongerForms(t *testing.T) {
	for bits := 1; bits <= 8; bits++ {
		top := powerOf(bits) - 1
		for _, v := range prefixNumbers(bits) {
			if v < top {
				continue
			}
			for pieces := prefixLen(v, bits) - 1; pieces <= 10; pieces++ {
				b := longerPrefix(v, bits, pieces)
				checkGetPrefix(t, b, 0, bits, v, 1+pieces, impl.OK)
				checkGetPrefix(t, b[:pieces], 0, bits, 0, 0, impl.ErrShort)
			}
			for pieces := 11; pieces <= 13; pieces++ {
				b := longerPrefix(v, bits, pieces)
				checkGetPrefix(t, b, 0, bits, 0, 0, impl.ErrForm)
				checkGetPrefix(t, b[:11], 0, bits, 0, 0, impl.ErrForm)
				checkGetPrefix(t, b[:10], 0, bits, 0, 0, impl.ErrShort)
			}
		}
	}
}

// oneAbove is the number that is 1 more, in as many pieces.
func oneAbove(b []byte) []byte {
	b = slices.Clone(b)
	at := 1
	for b[at] == 255 {
		b[at] = 128
		at++
	}
	b[at]++
	return b
}

// A number is above MaxVar as soon as its bytes tell so, whatever would stand behind.
func TestGetPrefixAbove(t *testing.T) {
	for bits := 1; bits <= 8; bits++ {
		most, _ := putPrefixAsked(maxVar, bits, 0)
		above := oneAbove(most)
		if v, _, _ := getPrefixAsked(most, 0, bits); v != maxVar || len(most) != 10 {
			t.Fatalf("%x is not the greatest number of %d bits", most, bits)
		}
		checkGetPrefix(t, above, 0, bits, 0, 0, impl.ErrForm)
		for n := range 10 {
			checkGetPrefix(t, above[:n], 0, bits, 0, 0, impl.ErrShort)
		}
		for last := range 256 {
			for _, behind := range [][]byte{nil, {0}, {1}, {127}, {128}, {255}, {128, 0}} {
				b := join(most[:9], []byte{byte(last)}, behind)
				checkGetPrefixAsked(t, b, 0, bits)
			}
		}
	}
	full := append([]byte{31}, bytes.Repeat([]byte{255}, 12)...)
	checkGetPrefix(t, full[:9], 0, 5, 0, 0, impl.ErrShort)
	checkGetPrefix(t, full[:10], 0, 5, 0, 0, impl.ErrForm)
	checkGetPrefix(t, full, 0, 5, 0, 0, impl.ErrForm)
}

func TestGetPrefixTenth(t *testing.T) {
	for bits := 1; bits <= 8; bits++ {
		top := powerOf(bits) - 1
		b := append([]byte{byte(top)}, bytes.Repeat([]byte{128}, 9)...)
		checkGetPrefix(t, b, 0, bits, 0, 0, impl.ErrShort)
		for tenth := range 256 {
			whole := append(slices.Clone(b), byte(tenth))
			if tenth == 0 {
				checkGetPrefix(t, whole, 0, bits, top, 11, impl.OK)
				continue
			}
			checkGetPrefix(t, whole, 0, bits, 0, 0, impl.ErrForm)
			checkGetPrefix(t, append(whole, 0), 0, bits, 0, 0, impl.ErrForm)
		}
	}
}

func TestGetPrefixLongLists(t *testing.T) {
	b := make([]byte, 65537)
	b[65535] = 7
	checkGetPrefix(t, b[:65536], 65535, 5, 7, 65536, impl.OK)
	checkGetPrefix(t, b[:65536], 65536, 5, 0, 0, impl.ErrShort)
	checkGetPrefix(t, b[:65536], 65537, 5, 0, 0, impl.ErrBad)
	checkGetPrefix(t, b, 0, 5, 0, 0, impl.ErrLong)
	checkGetPrefix(t, b, -1, 5, 0, 0, impl.ErrLong)
	checkGetPrefix(t, b, 0, 9, 0, 0, impl.ErrLong)
	checkGetPrefix(t, b, 65537, 5, 0, 0, impl.ErrLong)
}

func TestGetPrefixDrawn(t *testing.T) {
	more := numbers(15)
	met := map[int]int{}
	for range 60000 {
		bits := 1 + more.below(8)
		b := more.bytes(1 + more.below(13))
		b[0] |= byte(powerOf(bits) - 1)
		for i := range b[1:] {
			if more.below(4) > 0 {
				b[1+i] |= 128
			}
		}
		met[checkGetPrefixAsked(t, b, 0, bits)]++
		checkGetPrefixAsked(t, b, more.below(len(b)+1), 1+more.below(8))
	}
	if min(met[impl.OK], met[impl.ErrShort], met[impl.ErrForm]) < 2000 {
		t.Errorf("codes were met so often: %v", met)
	}
}

func TestP1Prefix(t *testing.T) {
	for _, v := range []int{0, 5, 31, 500, maxVar, -1} {
		first, _ := impl.PutPrefix(v, 5, 32)
		want := slices.Clone(first)
		for i := range first[:cap(first)] {
			first[:cap(first)][i] ^= 0xff
		}
		if again, _ := impl.PutPrefix(v, 5, 32); !bytes.Equal(again, want) {
			t.Errorf("PutPrefix(%d, 5, 32) = %x, then %x", v, want, again)
		}
	}
	for _, b := range [][]byte{nil, {31}, {31, 154, 10}, {31, 128}, bytes.Repeat([]byte{255}, 12), make([]byte, 65537)} {
		arg := amid(b, 0xee)
		for _, at := range []int{0, 1, 2, 3, -1, 99} {
			for _, bits := range []int{5, 8, 0, -1} {
				call := fmt.Sprintf("GetPrefix(.., %d, %d) of %d bytes", at, bits, len(b))
				mustEnd(t, call, func() { impl.GetPrefix(arg.list, at, bits) })
				arg.check(t, call)
			}
		}
	}
	for _, odd := range oddInts() {
		for _, other := range []int{0, -1, 8, 64} {
			mustEnd(t, "PutPrefix", func() {
				impl.PutPrefix(odd, other, 0)
				impl.PutPrefix(1, odd, other)
				impl.PutPrefix(1, other, odd)
			})
			mustEnd(t, "GetPrefix", func() {
				impl.GetPrefix([]byte{255, 255}, odd, other)
				impl.GetPrefix([]byte{255, 255}, other, odd)
			})
		}
	}
}
