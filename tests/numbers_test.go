package tests

import (
	"bytes"
	"fmt"
	"math"
	"math/big"
	"slices"
	"testing"

	"loop.example/g00012/impl"
)

func TestCodesAndLimits(t *testing.T) {
	codes := []int{
		impl.OK, impl.ErrBad, impl.ErrShort, impl.ErrForm, impl.ErrLong, impl.ErrKey, impl.ErrFrame, impl.ErrState,
		impl.ErrFlow, impl.ErrLimit, impl.ErrFinal, impl.ErrParam, impl.ErrVersion, impl.ErrToken, impl.ErrIds, impl.ErrBlocked,
		impl.ErrTable, impl.ErrMessage, impl.ErrPlace, impl.ErrRoute, impl.ErrLine, impl.ErrIdle, impl.ErrClosed, impl.ErrCancel,
	}
	for i, code := range codes {
		if code != i {
			t.Errorf("code %d has the number %d", i, code)
		}
	}
	if impl.MaxVar != 1<<62-1 || impl.MaxBytes != 65536 || impl.MaxList != 4096 {
		t.Errorf("limits: %d %d %d", impl.MaxVar, impl.MaxBytes, impl.MaxList)
	}
}

// varEdges are the ends of the four lengths, with their shortest forms.
var varEdges = []struct {
	v     int
	bytes []byte
}{
	{0, []byte{0}},
	{1, []byte{1}},
	{63, []byte{0x3f}},
	{64, []byte{0x40, 0x40}},
	{16383, []byte{0x7f, 0xff}},
	{16384, []byte{0x80, 0, 0x40, 0}},
	{1073741823, []byte{0xbf, 0xff, 0xff, 0xff}},
	{1073741824, []byte{0xc0, 0, 0, 0, 0x40, 0, 0, 0}},
	{151288809941952652, []byte{0xc2, 0x19, 0x7c, 0x5e, 0xff, 0x14, 0xe8, 0x8c}},
	{impl.MaxVar - 1, []byte{0xff, 0xff, 0xff, 0xff, 0xff, 0xff, 0xff, 0xfe}},
	{impl.MaxVar, []byte{0xff, 0xff, 0xff, 0xff, 0xff, 0xff, 0xff, 0xff}},
}

// longVar writes v in the form of n bytes, shortest or not.
func longVar(v, n int) []byte {
	out := big.NewInt(int64(v)).FillBytes(make([]byte, n))
	out[0] |= map[int]byte{1: 0, 2: 64, 4: 128, 8: 192}[n]
	return out
}

func checkVar(t *testing.T, b []byte, at, v, next, code int) {
	t.Helper()
	gotV, gotNext, gotCode := impl.GetVar(b, at)
	if gotV != v || gotNext != next || gotCode != code {
		t.Errorf("GetVar(%d bytes, %d) = %d %d %d, want %d %d %d", len(b), at, gotV, gotNext, gotCode, v, next, code)
	}
}

func checkFixed(t *testing.T, b []byte, at, n, v, next, code int) {
	t.Helper()
	gotV, gotNext, gotCode := impl.GetFixed(b, at, n)
	if gotV != v || gotNext != next || gotCode != code {
		t.Errorf("GetFixed(%d bytes, %d, %d) = %d %d %d, want %d %d %d", len(b), at, n, gotV, gotNext, gotCode, v, next, code)
	}
}

func checkVars(t *testing.T, b []byte, list []int, code int) {
	t.Helper()
	got, gotCode := impl.GetVars(b)
	if gotCode != code || !slices.Equal(got, list) {
		t.Errorf("GetVars(% x, %d bytes) = %d numbers, code %d, want %d numbers, code %d", b[:min(len(b), 16)], len(b), len(got), gotCode, len(list), code)
	}
}

func TestP2VarEdges(t *testing.T) {
	for _, c := range varEdges {
		if n := impl.VarLen(c.v); n != len(c.bytes) {
			t.Errorf("VarLen(%d) = %d", c.v, n)
		}
		if b, code := impl.PutVar(c.v); code != impl.OK || !bytes.Equal(b, c.bytes) {
			t.Errorf("PutVar(%d) = % x, %d", c.v, b, code)
		}
		checkVar(t, c.bytes, 0, c.v, len(c.bytes), impl.OK)
		checkVar(t, join([]byte{9, 255}, c.bytes, []byte{77}), 2, c.v, 2+len(c.bytes), impl.OK)
	}
}

func TestVarOutOfRange(t *testing.T) {
	for _, v := range []int{-1, -64, math.MinInt, impl.MaxVar + 1, impl.MaxVar + 2, math.MaxInt} {
		if n := impl.VarLen(v); n != 0 {
			t.Errorf("VarLen(%d) = %d", v, n)
		}
		if b, code := impl.PutVar(v); code != impl.ErrBad || len(b) != 0 {
			t.Errorf("PutVar(%d) = %v, %d", v, b, code)
		}
	}
}

func TestGetVarNotShortest(t *testing.T) {
	for _, n := range []int{1, 2, 4, 8} {
		for _, v := range []int{0, 1, 63} {
			checkVar(t, longVar(v, n), 0, v, n, impl.OK)
		}
	}
	checkVar(t, longVar(16383, 4), 0, 16383, 4, impl.OK)
	checkVar(t, longVar(16383, 8), 0, 16383, 8, impl.OK)
	checkVar(t, longVar(1073741823, 8), 0, 1073741823, 8, impl.OK)
}

func TestGetVarPlaces(t *testing.T) {
	b := []byte{5, 6}
	checkVar(t, b, 1, 6, 2, impl.OK)
	checkVar(t, b, 2, 0, 0, impl.ErrShort)
	for _, at := range []int{3, 4, math.MaxInt, -1, -2, math.MinInt} {
		checkVar(t, b, at, 0, 0, impl.ErrBad)
	}
	checkVar(t, nil, 0, 0, 0, impl.ErrShort)
	checkVar(t, nil, 1, 0, 0, impl.ErrBad)
	checkVar(t, nil, -1, 0, 0, impl.ErrBad)
}

func TestGetVarEndsWithin(t *testing.T) {
	for _, n := range []int{2, 4, 8} {
		whole := join([]byte{1, 2, 3}, longVar(7, n))
		for cut := 4; cut < len(whole); cut++ {
			checkVar(t, whole[:cut], 3, 0, 0, impl.ErrShort)
		}
		checkVar(t, whole, 3, 7, len(whole), impl.OK)
	}
}

func TestGetVarLongest(t *testing.T) {
	b := make([]byte, impl.MaxBytes)
	b[impl.MaxBytes-1] = 63
	checkVar(t, b, impl.MaxBytes-1, 63, impl.MaxBytes, impl.OK)
	checkVar(t, b, impl.MaxBytes, 0, 0, impl.ErrShort)
	checkVar(t, b, impl.MaxBytes+1, 0, 0, impl.ErrBad)
	tooLong := make([]byte, impl.MaxBytes+1)
	for _, at := range []int{0, impl.MaxBytes, impl.MaxBytes + 1, impl.MaxBytes + 2, -1} {
		checkVar(t, tooLong, at, 0, 0, impl.ErrLong)
	}
}

// greatestIn is the greatest int that fits into n bytes.
func greatestIn(n int) int {
	if n == 8 {
		return math.MaxInt
	}
	return 1<<(8*n) - 1
}

func TestP2FixedEdges(t *testing.T) {
	for n := 1; n <= 8; n++ {
		for _, v := range []int{0, 1, 128, greatestIn(n) - 1, greatestIn(n), greatestIn(n)/2 + 1} {
			want := big.NewInt(int64(v)).FillBytes(make([]byte, n))
			if b, code := impl.PutFixed(v, n); code != impl.OK || !bytes.Equal(b, want) {
				t.Errorf("PutFixed(%d, %d) = % x, %d", v, n, b, code)
			}
			checkFixed(t, want, 0, n, v, n, impl.OK)
			checkFixed(t, join([]byte{200}, want, []byte{201}), 1, n, v, 1+n, impl.OK)
		}
	}
}

func TestPutFixedRefuses(t *testing.T) {
	for n := 1; n <= 7; n++ {
		for _, v := range []int{greatestIn(n) + 1, greatestIn(n) + 2, math.MaxInt, -1, math.MinInt} {
			if b, code := impl.PutFixed(v, n); code != impl.ErrBad || len(b) != 0 {
				t.Errorf("PutFixed(%d, %d) = % x, %d", v, n, b, code)
			}
		}
	}
	for _, c := range [][2]int{{-1, 8}, {math.MinInt, 8}, {0, 0}, {0, 9}, {0, -1}, {1, 64}, {0, math.MinInt}, {0, math.MaxInt}} {
		if b, code := impl.PutFixed(c[0], c[1]); code != impl.ErrBad || len(b) != 0 {
			t.Errorf("PutFixed(%d, %d) = % x, %d", c[0], c[1], b, code)
		}
	}
}

func TestGetFixedRefuses(t *testing.T) {
	b := []byte{1, 2, 3, 4, 5, 6, 7, 8}
	for _, n := range []int{0, -1, 9, math.MinInt, math.MaxInt} {
		checkFixed(t, b, 0, n, 0, 0, impl.ErrBad)
	}
	for n := 1; n <= 8; n++ {
		for _, at := range []int{-1, 9, math.MinInt, math.MaxInt} {
			checkFixed(t, b, at, n, 0, 0, impl.ErrBad)
		}
		checkFixed(t, b, 8, n, 0, 0, impl.ErrShort)
		checkFixed(t, b, 8-n+1, n, 0, 0, impl.ErrShort)
		checkFixed(t, nil, 0, n, 0, 0, impl.ErrShort)
		checkFixed(t, b[:n-1], 0, n, 0, 0, impl.ErrShort)
	}
	checkFixed(t, []byte{127, 255, 255, 255, 255, 255, 255, 255}, 0, 8, math.MaxInt, 8, impl.OK)
	checkFixed(t, []byte{128, 0, 0, 0, 0, 0, 0, 0}, 0, 8, 0, 0, impl.ErrForm)
	checkFixed(t, []byte{255, 255, 255, 255, 255, 255, 255, 255}, 0, 8, 0, 0, impl.ErrForm)
	checkFixed(t, []byte{255, 255, 255, 255, 255, 255, 255}, 0, 7, 1<<56-1, 7, impl.OK)
}

func TestFixedOrderOfCodes(t *testing.T) {
	high := bytes.Repeat([]byte{255}, 7)
	checkFixed(t, high, 0, 8, 0, 0, impl.ErrShort)
	checkFixed(t, high, 7, 9, 0, 0, impl.ErrBad)
	checkFixed(t, high, 8, 8, 0, 0, impl.ErrBad)
	b := make([]byte, impl.MaxBytes)
	b[impl.MaxBytes-1] = 5
	checkFixed(t, b, impl.MaxBytes-1, 1, 5, impl.MaxBytes, impl.OK)
	checkFixed(t, b, impl.MaxBytes-1, 2, 0, 0, impl.ErrShort)
	tooLong := bytes.Repeat([]byte{255}, impl.MaxBytes+1)
	for _, c := range [][2]int{{0, 1}, {0, 8}, {0, 0}, {0, 9}, {-1, 1}, {impl.MaxBytes + 1, 1}, {impl.MaxBytes + 2, 1}} {
		checkFixed(t, tooLong, c[0], c[1], 0, 0, impl.ErrLong)
	}
}

// listBytes is what PutVars must give, put together by other means.
func listBytes(list []int) []byte {
	out := varBytes(len(list))
	for _, v := range list {
		out = append(out, varBytes(v)...)
	}
	return out
}

func varBytes(v int) []byte {
	switch {
	case v < 64:
		return longVar(v, 1)
	case v < 16384:
		return longVar(v, 2)
	case v < 1073741824:
		return longVar(v, 4)
	}
	return longVar(v, 8)
}

func checkList(t *testing.T, list []int) {
	t.Helper()
	want := listBytes(list)
	if b, code := impl.PutVars(list); code != impl.OK || !bytes.Equal(b, want) {
		t.Errorf("PutVars of %d numbers = %d bytes, code %d", len(list), len(b), code)
	}
	checkVars(t, want, list, impl.OK)
}

func TestP2Lists(t *testing.T) {
	checkList(t, nil)
	checkList(t, []int{})
	edges := []int{}
	for _, c := range varEdges {
		edges = append(edges, c.v)
		checkList(t, []int{c.v})
	}
	checkList(t, edges)
	draw := numbers(1)
	for _, n := range []int{1, 2, 63, 64, 65, 1000, impl.MaxList - 1, impl.MaxList} {
		list := make([]int, n)
		checkList(t, list)
		for i := range list {
			list[i] = impl.MaxVar
		}
		checkList(t, list)
		for i := range list {
			list[i] = draw.variable()
		}
		checkList(t, list)
	}
}

func TestPutVarsRefuses(t *testing.T) {
	refuse := func(list []int, want int) {
		t.Helper()
		if b, code := impl.PutVars(list); code != want || len(b) != 0 {
			t.Errorf("PutVars of %d numbers = %d bytes, code %d, want %d", len(list), len(b), code, want)
		}
	}
	for _, v := range []int{-1, math.MinInt, impl.MaxVar + 1, math.MaxInt} {
		refuse([]int{v}, impl.ErrBad)
		refuse([]int{1, 2, v}, impl.ErrBad)
		refuse([]int{v, 1, 2}, impl.ErrBad)
		long := make([]int, impl.MaxList+1)
		long[0] = v
		refuse(long, impl.ErrLong)
		refuse(long[:impl.MaxList], impl.ErrBad)
	}
	refuse(make([]int, impl.MaxList+1), impl.ErrLong)
	refuse(make([]int, 3*impl.MaxList), impl.ErrLong)
}

func TestGetVarsRefuses(t *testing.T) {
	for _, b := range [][]byte{
		{}, nil,
		{1}, {2, 5}, {64}, {192, 0, 0}, {1, 64}, {1, 128, 0, 64}, {1, 192, 0, 0, 0, 64, 0, 0}, // the bytes end too early
		{0, 0}, {1, 5, 0}, {2, 1, 64, 64, 9}, // bytes behind the end
		{64, 0}, {128, 0, 0, 0}, {192, 0, 0, 0, 0, 0, 0, 0}, {64, 1, 5}, // the count is not in its shortest form
		{1, 64, 63}, {2, 7, 64, 0}, {1, 128, 0, 63, 255}, {1, 192, 0, 0, 0, 63, 255, 255, 255}, // a number is not
		{255, 255, 255, 255, 255, 255, 255, 255}, {191, 255, 255, 255, 1},
	} {
		checkVars(t, b, nil, impl.ErrForm)
	}
}

func TestGetVarsTooMany(t *testing.T) {
	// No list of so many numbers is written by PutVars, so these bytes are nobody's.
	count := varBytes(impl.MaxList + 1)
	checkVars(t, join(count, make([]byte, impl.MaxList+1)), nil, impl.ErrForm)
	checkVars(t, join(varBytes(impl.MaxList), make([]byte, impl.MaxList)), make([]int, impl.MaxList), impl.OK)
	checkVars(t, make([]byte, impl.MaxBytes), nil, impl.ErrForm)
	checkVars(t, make([]byte, impl.MaxBytes+1), nil, impl.ErrLong)
	checkVars(t, join([]byte{1, 5}, make([]byte, impl.MaxBytes-1)), nil, impl.ErrLong)
	checkVars(t, bytes.Repeat([]byte{255}, impl.MaxBytes+1), nil, impl.ErrLong)
}

// Every row of up to three bytes is either what one list gives, or refused.
func TestGetVarsAllShortRows(t *testing.T) {
	lists := map[string][]int{string(listBytes(nil)): nil}
	for a := range 16384 {
		lists[string(listBytes([]int{a}))] = []int{a}
	}
	for a := range 64 {
		for b := range 64 {
			lists[string(listBytes([]int{a, b}))] = []int{a, b}
		}
	}
	check := func(b []byte) {
		list, ok := lists[string(b)]
		got, code := impl.GetVars(b)
		if ok && (code != impl.OK || !slices.Equal(got, list)) || !ok && (code != impl.ErrForm || len(got) != 0) {
			t.Errorf("GetVars(% x) = %v, %d", b, got, code)
		}
	}
	for n := range 65536 {
		check([]byte{byte(n >> 8), byte(n)})
		for _, first := range []byte{0, 1, 2, 3, 63, 64, 65, 128, 192, 255} {
			check([]byte{first, byte(n >> 8), byte(n)})
		}
	}
	for n := range 256 {
		check([]byte{byte(n)})
	}
}

func TestP2DrawnNumbers(t *testing.T) {
	draw := numbers(2)
	for range 20000 {
		v := draw.variable()
		b, code := impl.PutVar(v)
		if code != impl.OK || !bytes.Equal(b, varBytes(v)) || impl.VarLen(v) != len(b) {
			t.Fatalf("PutVar(%d) = % x, %d", v, b, code)
		}
		checkVar(t, join(b, []byte{3}), 0, v, len(b), impl.OK)
		n := 1 + draw.below(8)
		w := int(draw.next()>>1) & greatestIn(n)
		b, code = impl.PutFixed(w, n)
		if code != impl.OK || len(b) != n {
			t.Fatalf("PutFixed(%d, %d) = % x, %d", w, n, b, code)
		}
		checkFixed(t, join([]byte{255}, b), 1, n, w, 1+n, impl.OK)
	}
}

func TestP1AnyIntegers(t *testing.T) {
	b := bytes.Repeat([]byte{255, 0, 64, 128, 192}, 5)
	for _, v := range oddInts() {
		good := v >= 0 && v <= impl.MaxVar
		mustEnd(t, fmt.Sprintf("with %d", v), func() {
			if n := impl.VarLen(v); (n != 0) != good {
				t.Errorf("VarLen(%d) = %d", v, n)
			}
			if out, code := impl.PutVar(v); (code == impl.OK) != good || (len(out) > 0) != good {
				t.Errorf("PutVar(%d) = % x, %d", v, out, code)
			}
			if at, next, code := impl.GetVar(b, v); code != impl.OK && (at != 0 || next != 0) {
				t.Errorf("GetVar at %d = %d %d %d", v, at, next, code)
			}
			if out, code := impl.PutVars([]int{v}); (code == impl.OK) != good || (len(out) > 0) != good {
				t.Errorf("PutVars(%d) = % x, %d", v, out, code)
			}
		})
		for _, n := range oddInts() {
			mustEnd(t, fmt.Sprintf("with %d and %d", v, n), func() { checkAnyFixed(t, b, v, n) })
		}
	}
}

func checkAnyFixed(t *testing.T, b []byte, v, n int) {
	t.Helper()
	width := n >= 1 && n <= 8
	good := width && v >= 0 && v <= greatestIn(n)
	if out, code := impl.PutFixed(v, n); good && (code != impl.OK || len(out) != n) || !good && (code != impl.ErrBad || len(out) != 0) {
		t.Errorf("PutFixed(%d, %d) = % x, %d", v, n, out, code)
	}
	got, next, code := impl.GetFixed(b, v, n)
	if code != impl.OK && (got != 0 || next != 0) || code == impl.OK && (!width || next != v+n) {
		t.Errorf("GetFixed at %d of %d = %d %d %d", v, n, got, next, code)
	}
}

func TestP1AnyBytes(t *testing.T) {
	draw := numbers(3)
	for range 20000 {
		b := make([]byte, draw.below(24))
		for i := range b {
			b[i] = byte(draw.next())
			if draw.below(2) == 0 {
				b[i] &= 67
			}
		}
		f := fence(b, 165)
		at, n := draw.below(30)-3, draw.below(12)-1
		mustEnd(t, fmt.Sprintf("% x at %d of %d", b, at, n), func() {
			impl.GetVar(f.list, at)
			impl.GetFixed(f.list, at, n)
			if list, code := impl.GetVars(f.list); code == impl.OK && !bytes.Equal(listBytes(list), b) {
				t.Errorf("GetVars(% x) = %v", b, list)
			}
		})
		f.check(t, fmt.Sprintf("a call with % x", b))
	}
}

// A list handed in may have room behind its end, with something of its owner's there.
func TestP1NoBytesBehindTheEndAreRead(t *testing.T) {
	whole := []byte{192, 0, 0, 0, 64, 0, 0, 0}
	checkVar(t, whole[:7], 0, 0, 0, impl.ErrShort)
	checkFixed(t, whole[:7], 0, 8, 0, 0, impl.ErrShort)
	checkVars(t, []byte{2, 1, 1}[:2], nil, impl.ErrForm)
}

func TestP1ArgumentsStay(t *testing.T) {
	for _, list := range [][]int{{}, {1, 64, 16384, impl.MaxVar}, {5, -1}, make([]int, impl.MaxList), make([]int, impl.MaxList+1)} {
		f := fence(list, 99)
		impl.PutVars(f.list)
		f.check(t, "PutVars")
	}
	for _, list := range [][]byte{{}, {3, 1, 64, 64, 7}, {192, 0, 0, 0, 64, 0, 0, 0, 9}, make([]byte, impl.MaxBytes), make([]byte, impl.MaxBytes+1)} {
		f := fence(list, 99)
		impl.GetVar(f.list, 0)
		impl.GetFixed(f.list, 0, 8)
		impl.GetVars(f.list)
		f.check(t, "a reading call")
	}
}

// An answer that was spoilt by its owner must show in no argument and in no later answer.
func TestP1AnswersAreNew(t *testing.T) {
	spoil := func(b []byte) {
		b = b[:cap(b)]
		for i := range b {
			b[i] ^= 255
		}
	}
	for _, c := range varEdges {
		for range 2 {
			b, _ := impl.PutVar(c.v)
			if !bytes.Equal(b, c.bytes) {
				t.Errorf("PutVar(%d) = % x", c.v, b)
			}
			spoil(b)
		}
	}
	list, row := []int{1, 64, 16384}, []byte{3, 1, 64, 64, 128, 0, 64, 0}
	for range 2 {
		b, _ := impl.PutFixed(258, 3)
		if !bytes.Equal(b, []byte{0, 1, 2}) {
			t.Errorf("PutFixed(258, 3) = % x", b)
		}
		spoil(b)
		b, _ = impl.PutVars(list)
		if !bytes.Equal(b, row) {
			t.Errorf("PutVars = % x", b)
		}
		spoil(b)
		back, _ := impl.GetVars(row)
		if !slices.Equal(back, list) {
			t.Errorf("GetVars = %v", back)
		}
		clear(back[:cap(back)])
	}
	if !slices.Equal(list, []int{1, 64, 16384}) || !bytes.Equal(row, []byte{3, 1, 64, 64, 128, 0, 64, 0}) {
		t.Errorf("an answer shares memory with an argument: %v % x", list, row)
	}
}
