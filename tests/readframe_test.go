package tests

import (
	"bytes"
	"fmt"
	"math"
	"math/big"
	"slices"
	"strings"
	"testing"

	"loop.example/g00012/impl"
)

// askedReader goes on when the bytes have ended, and keeps in mind that they did.
type askedReader struct {
	b     []byte
	at    int
	short bool
}

func (r *askedReader) variable() int {
	v, next := variableAsked(r.b, r.at)
	if next == 0 || r.short {
		r.short = true
		return 0
	}
	r.at = next
	return v
}

func (r *askedReader) bytes(n int) []byte {
	if r.short || n > len(r.b)-r.at {
		r.short = true
		return nil
	}
	r.at += n
	return r.b[r.at-n : r.at]
}

// ackRangesAsked counts down by the table's words, in numbers of any width.
func ackRangesAsked(greatest, first int, further [][2]int) ([]impl.Range, bool) {
	low := minus(wide(greatest), wide(first))
	pairs := [][2]*big.Int{{low, wide(greatest)}}
	for _, pair := range further {
		high := minus(minus(low, plus(wide(pair[0]), wide(1))), wide(1))
		low = minus(high, wide(pair[1]))
		pairs = append(pairs, [2]*big.Int{low, high})
	}
	var list []impl.Range
	for _, pair := range pairs {
		if pair[0].Sign() < 0 {
			return nil, false
		}
		list = append(list, impl.Range{Lo: int(pair[0].Int64()), Hi: int(pair[1].Int64())})
	}
	slices.Reverse(list)
	return list, true
}

// ackAsked tells as a code what is found ahead of the end, or of what is valid.
func (r *askedReader) ackAsked(f *impl.Frame) int {
	greatest := r.variable()
	f.A = r.variable()
	count := r.variable()
	if !r.short && count > 63 {
		return impl.ErrForm
	}
	first := r.variable()
	var further [][2]int
	for range count {
		between := r.variable()
		further = append(further, [2]int{between, r.variable()})
	}
	if r.short {
		return impl.ErrShort
	}
	ranges, ok := ackRangesAsked(greatest, first, further)
	if !ok {
		return impl.ErrForm
	}
	f.Ranges = ranges
	return impl.OK
}

// behindAsked reads what stands behind the first byte of a kind that has numbers and Data alone.
func (r *askedReader) behindAsked(f *impl.Frame, first int) {
	row, _ := rowOfKind(f.Kind)
	numbers := row.numbers
	if f.Kind == 8 && first&4 == 0 {
		numbers = "A"
	}
	for _, field := range numbers {
		*map[rune]*int{'A': &f.A, 'B': &f.B, 'C': &f.C}[field] = r.variable()
	}
	switch {
	case f.Kind == 8 && first&2 == 0, first == 48:
		f.Data = r.bytes(max(0, len(r.b)-r.at))
	case f.Kind == 24:
		if count := r.bytes(1); count != nil {
			f.Data = r.bytes(int(count[0]))
		}
		f.Token = r.bytes(8)
	case f.Kind == 26 || f.Kind == 27:
		f.Data = r.bytes(8)
	case strings.Contains(row.fields, "D"):
		f.Data = r.bytes(r.variable())
	}
}

func kindOfFirst(first int) int {
	switch {
	case first >= 8 && first <= 15:
		return 8
	case first == 19 || first == 23 || first == 49:
		return first - 1
	}
	return first
}

// readFrameAsked is the chapter's rule of ReadFrame, word by word.
func readFrameAsked(b []byte, at int) (impl.Frame, int, int) {
	switch {
	case len(b) > 65536:
		return impl.Frame{}, 0, impl.ErrLong
	case at < 0 || at > len(b):
		return impl.Frame{}, 0, impl.ErrBad
	case at == len(b):
		return impl.Frame{}, 0, impl.ErrShort
	}
	first := int(b[at])
	f := impl.Frame{Kind: kindOfFirst(first)}
	if _, ok := rowOfKind(f.Kind); !ok {
		return impl.Frame{}, 0, impl.ErrForm
	}
	r := &askedReader{b: b, at: at + 1}
	code := impl.OK
	switch f.Kind {
	case 0:
		for f.A = 1; f.A < 1500 && r.at < len(b) && b[r.at] == 0; r.at++ {
			f.A++
		}
	case 2:
		code = r.ackAsked(&f)
	default:
		f.Fin = f.Kind == 8 && first%2 == 1
		if f.Kind == 18 || f.Kind == 22 {
			f.B = first - f.Kind
		}
		r.behindAsked(&f, first)
	}
	switch {
	case code != impl.OK:
		return impl.Frame{}, 0, code
	case r.short:
		return impl.Frame{}, 0, impl.ErrShort
	case !frameOKAsked(f):
		return impl.Frame{}, 0, impl.ErrForm
	}
	return f, r.at, impl.OK
}

func checkReadAsked(t *testing.T, b []byte, at int) int {
	t.Helper()
	f, next, code := readFrameAsked(b, at)
	checkReadFrame(t, b, at, f, next, code)
	return code
}

func TestP5FramesWithBytesAround(t *testing.T) {
	more := numbers(53)
	for _, f := range edgeFrames() {
		b := frameBytesAsked(f)
		ahead, behind := more.bytes(more.below(20)), more.bytes(1+more.below(20))
		behind[0] |= 1
		checkReadFrame(t, join(ahead, b, behind), len(ahead), f, len(ahead)+len(b), impl.OK)
		checkReadFrame(t, join(ahead, b), len(ahead), f, len(ahead)+len(b), impl.OK)
		checkReadFrame(t, join(b, behind), 0, f, len(b), impl.OK)
	}
}

func TestReadFrameFirstBytes(t *testing.T) {
	for first := range 256 {
		kind := kindOfFirst(first)
		_, there := rowOfKind(kind)
		for _, behind := range [][]byte{nil, {0}, {1}, {1, 1}, {1, 1, 1}, {1, 0, 0, 1}, rowOf(40, 0, 3), bytes.Repeat([]byte{1}, 40), bytes.Repeat([]byte{255}, 40)} {
			b := join([]byte{byte(first)}, behind)
			code := checkReadAsked(t, b, 0)
			if !there && code != impl.ErrForm {
				t.Errorf("the first byte %d: %d", first, code)
			}
		}
	}
}

func TestReadFramePlaces(t *testing.T) {
	b := []byte{1, 16, 7, 30}
	for _, at := range append(oddInts(), -1, 4, 5) {
		switch {
		case at < 0 || at > 4:
			refusesFrame(t, b, at, impl.ErrBad)
			refusesFrame(t, nil, at, impl.ErrBad)
		case at == 4:
			refusesFrame(t, b, at, impl.ErrShort)
		}
	}
	refusesFrame(t, nil, 0, impl.ErrShort)
	refusesFrame(t, []byte{}, 0, impl.ErrShort)
	refusesFrame(t, nil, 1, impl.ErrBad)
	checkReadFrame(t, b, 1, impl.Frame{Kind: 16, A: 7}, 3, impl.OK)
	checkReadFrame(t, b, 3, impl.Frame{Kind: 30}, 4, impl.OK)
	refusesFrame(t, b, 2, impl.ErrShort)
}

func TestReadFrameLongest(t *testing.T) {
	b := bytes.Repeat([]byte{1}, impl.MaxBytes)
	checkReadFrame(t, b, 0, impl.Frame{Kind: 1}, 1, impl.OK)
	checkReadFrame(t, b, impl.MaxBytes-1, impl.Frame{Kind: 1}, impl.MaxBytes, impl.OK)
	refusesFrame(t, b, impl.MaxBytes, impl.ErrShort)
	refusesFrame(t, b, impl.MaxBytes+1, impl.ErrBad)
	long := append(b, 1)
	for _, at := range []int{0, -1, impl.MaxBytes, impl.MaxBytes + 1, impl.MaxBytes + 2, math.MinInt, math.MaxInt} {
		refusesFrame(t, long, at, impl.ErrLong)
	}
	refusesFrame(t, append(bytes.Repeat([]byte{3}, impl.MaxBytes), 3), 0, impl.ErrLong)
}

// Of every kind, cut off at every place: the bytes end within it.
func TestReadFrameCutOff(t *testing.T) {
	rows := [][]byte{
		{10, 1, 2, 2, 9}, {11, 1, 2, 2, 9}, {14, 1, 2, 1, 9}, {15, 1, 2, 1, 9},
		ackBytesAsked(impl.Frame{Kind: 2, A: 9, Ranges: spacedRanges(64, 100)}),
		frameBytesAsked(impl.Frame{Kind: 4, A: maxVar, B: maxVar, C: maxVar}),
		frameBytesAsked(impl.Frame{Kind: 6, A: 9, Data: rowOf(200, 1, 251)}),
	}
	for _, c := range plainFrames()[1:] {
		rows = append(rows, c.b)
	}
	for _, b := range rows {
		for n := range len(b) {
			refusesFrame(t, b[:n], 0, impl.ErrShort)
			refusesFrame(t, join([]byte{1, 1}, b[:n]), 2, impl.ErrShort)
		}
	}
	// What goes to the end of b has no place there to be cut off at.
	for _, first := range []byte{0, 8, 9, 12, 13, 48} {
		for n := range 5 {
			checkReadAsked(t, []byte{first, 1, 2, 2, 9}[:n], 0)
		}
	}
}

// lengthened are the ways to write a number, all four lengths that hold it.
func lengthened(v int) [][]byte {
	var list [][]byte
	for _, n := range []int{1, 2, 4, 8} {
		if n >= len(varBytes(v)) {
			list = append(list, longVar(v, n))
		}
	}
	return list
}

func TestReadFrameLongerForms(t *testing.T) {
	for _, a := range lengthened(5) {
		for _, b := range lengthened(3) {
			for _, c := range lengthened(2) {
				for _, pair := range []struct {
					f impl.Frame
					b []byte
				}{
					{impl.Frame{Kind: 2, A: 3, Ranges: []impl.Range{{Lo: 3, Hi: 5}}}, join([]byte{2}, a, b, longVar(0, len(c)), c)},
					{impl.Frame{Kind: 2, A: 3, Ranges: []impl.Range{{Lo: 0, Hi: 0}, {Lo: 5, Hi: 5}}}, join([]byte{2}, a, longVar(3, len(b)), longVar(1, len(c)), longVar(0, len(a)), b, longVar(0, len(c)))},
					{impl.Frame{Kind: 4, A: 5, B: 3, C: 2}, join([]byte{4}, a, b, c)},
					{impl.Frame{Kind: 5, A: 5, B: 3}, join([]byte{5}, a, b)},
					{impl.Frame{Kind: 6, A: 5, Data: []byte{7, 8, 9}}, join([]byte{6}, a, b, []byte{7, 8, 9})},
					{impl.Frame{Kind: 7, Data: []byte{7, 8, 9}}, join([]byte{7}, b, []byte{7, 8, 9})},
					{impl.Frame{Kind: 8, A: 5, B: 3, Data: []byte{7, 8}}, join([]byte{14}, a, b, c, []byte{7, 8})},
					{impl.Frame{Kind: 16, A: 5}, join([]byte{16}, a)},
					{impl.Frame{Kind: 17, A: 5, B: 3}, join([]byte{17}, a, b)},
					{impl.Frame{Kind: 18, A: 5}, join([]byte{18}, a)},
					{impl.Frame{Kind: 18, A: 5, B: 1}, join([]byte{19}, a)},
					{impl.Frame{Kind: 20, A: 5}, join([]byte{20}, a)},
					{impl.Frame{Kind: 21, A: 5, B: 3}, join([]byte{21}, a, b)},
					{impl.Frame{Kind: 22, A: 5}, join([]byte{22}, a)},
					{impl.Frame{Kind: 22, A: 5, B: 1}, join([]byte{23}, a)},
					{impl.Frame{Kind: 24, A: 5, B: 3, Data: []byte{7}, Token: zeroes(8)}, join([]byte{24}, a, b, []byte{1, 7}, zeroes(8))},
					{impl.Frame{Kind: 25, A: 5}, join([]byte{25}, a)},
					{impl.Frame{Kind: 28, A: 5, B: 3, Data: []byte{7, 8}}, join([]byte{28}, a, b, c, []byte{7, 8})},
					{impl.Frame{Kind: 29, A: 5, Data: []byte{7, 8}}, join([]byte{29}, a, c, []byte{7, 8})},
					{impl.Frame{Kind: 48, Data: []byte{7, 8}}, join([]byte{49}, c, []byte{7, 8})},
				} {
					checkReadFrame(t, join(pair.b, []byte{30}), 0, pair.f, len(pair.b), impl.OK)
					checkReadAsked(t, pair.b, 0)
				}
			}
		}
	}
}

func TestReadFrameStreamForms(t *testing.T) {
	for first := 8; first <= 15; first++ {
		offsets := []int{0}
		if first&4 != 0 {
			offsets = []int{0, 1, 64, maxVar - 1500}
		}
		for _, offset := range offsets {
			for _, n := range []int{0, 1, 63, 64, 1499, 1500} {
				data := rowOf(n, 1, 251)
				want := impl.Frame{Kind: 8, A: 6, B: offset, Data: data, Fin: first&1 != 0}
				b := []byte{byte(first), 6}
				if first&4 != 0 {
					b = join(b, varBytes(offset))
				}
				if first&2 != 0 {
					b = join(b, countAhead(data))
					checkReadFrame(t, join(b, []byte{1, 2}), 0, want, len(b), impl.OK)
				} else {
					b = join(b, data)
				}
				checkReadFrame(t, b, 0, want, len(b), impl.OK)
				checkReadFrame(t, join([]byte{3, 3, 3}, b), 3, want, 3+len(b), impl.OK)
			}
		}
	}
	// To the end of b: one byte more is none less to be read.
	refusesFrame(t, join([]byte{8, 6}, zeroes(1501)), 0, impl.ErrForm)
	refusesFrame(t, join([]byte{8, 6}, zeroes(impl.MaxBytes-2)), 0, impl.ErrForm)
	refusesFrame(t, join([]byte{12}, varBytes(6), varBytes(maxVar), []byte{0}), 0, impl.ErrForm)
	checkReadFrame(t, join([]byte{12}, varBytes(6), varBytes(maxVar)), 0, impl.Frame{Kind: 8, A: 6, B: maxVar}, 10, impl.OK)
}

func TestReadFrameDatagramForms(t *testing.T) {
	for _, n := range []int{0, 1, 63, 64, 1499, 1500} {
		data := rowOf(n, 1, 251)
		want := impl.Frame{Kind: 48, Data: data}
		checkReadFrame(t, join([]byte{48}, data), 0, want, 1+n, impl.OK)
		checkReadFrame(t, join([]byte{0, 0, 48}, data), 2, want, 3+n, impl.OK)
		b := join([]byte{49}, countAhead(data))
		checkReadFrame(t, join(b, []byte{9}), 0, want, len(b), impl.OK)
	}
	refusesFrame(t, join([]byte{48}, zeroes(1501)), 0, impl.ErrForm)
	refusesFrame(t, join([]byte{49}, countAhead(zeroes(1501))), 0, impl.ErrForm)
}

func TestReadFramePaddings(t *testing.T) {
	for _, n := range []int{1, 2, 1499, 1500, 1501, 3000, 3001, impl.MaxBytes} {
		want := impl.Frame{Kind: 0, A: min(n, 1500)}
		checkReadFrame(t, zeroes(n), 0, want, min(n, 1500), impl.OK)
		checkReadFrame(t, zeroes(n), n-1, impl.Frame{Kind: 0, A: 1}, n, impl.OK)
		if n < impl.MaxBytes-3 {
			checkReadFrame(t, join([]byte{1, 1}, zeroes(n), []byte{1}), 2, want, 2+min(n, 1500), impl.OK)
		}
	}
}

func TestReadAckFaults(t *testing.T) {
	max8 := varBytes(maxVar)
	for _, c := range []struct {
		b    []byte
		code int
	}{
		// More further ranges than may be: at once, whatever stands behind, or not.
		{[]byte{2, 9, 0, 64, 64}, impl.ErrForm},
		{join([]byte{2, 9, 0}, max8), impl.ErrForm},
		{join([]byte{2, 9, 0, 64, 64}, bytes.Repeat([]byte{0}, 200)), impl.ErrForm},
		{[]byte{2, 9, 0, 63}, impl.ErrShort},
		{[]byte{2, 9, 0, 64}, impl.ErrShort},
		{join([]byte{2, 9, 0, 63, 0}, zeroes(126)), impl.ErrForm},
		{join([]byte{2, 9, 0, 63, 0}, zeroes(125)), impl.ErrShort},
		{join([]byte{2, 64, 126, 0, 63, 0}, zeroes(126)), impl.OK},
		{join([]byte{2, 64, 125, 0, 63, 0}, zeroes(126)), impl.ErrForm},
		// Below 0: the highest range, a gap, a further range.
		{[]byte{2, 5, 0, 0, 5}, impl.OK},
		{[]byte{2, 5, 0, 0, 6}, impl.ErrForm},
		{[]byte{2, 5, 0, 1, 3, 0, 0}, impl.OK},
		{[]byte{2, 5, 0, 1, 4, 0, 0}, impl.ErrForm},
		{[]byte{2, 5, 0, 1, 5, 0, 0}, impl.ErrForm},
		{[]byte{2, 5, 0, 1, 2, 0, 1}, impl.OK},
		{[]byte{2, 5, 0, 1, 2, 0, 2}, impl.ErrForm},
		{[]byte{2, 5, 0, 1, 2, 1, 0}, impl.OK},
		{[]byte{2, 5, 0, 1, 2, 2, 0}, impl.ErrForm},
		{[]byte{2, 5, 0, 1, 2, 1, 1}, impl.ErrForm},
		// What is below 0 already ends too early: that is told.
		{[]byte{2, 5, 0, 1, 6}, impl.ErrShort},
		{[]byte{2, 5, 0, 1, 6, 0}, impl.ErrShort},
		{[]byte{2, 5, 0, 2, 6, 0, 0, 0}, impl.ErrShort},
		// Sums that would be beyond an int.
		{join([]byte{2}, max8, []byte{0, 1}, max8, max8, max8), impl.ErrForm},
		{join([]byte{2}, max8, []byte{0, 3}, max8, max8, max8, max8, max8, max8, max8), impl.ErrForm},
		{join([]byte{2}, max8, max8, []byte{0}, max8), impl.OK},
		{join([]byte{2, 5, 0, 1, 0}, max8, []byte{0}), impl.ErrForm},
		{join([]byte{2, 5, 0, 1, 0, 0}, max8), impl.ErrForm},
		{join([]byte{2, 5, 0, 2, 0}, max8, max8, []byte{0, 0}), impl.ErrForm},
	} {
		if _, _, code := impl.ReadFrame(c.b, 0); code != c.code {
			t.Errorf("ReadFrame(%x) has the code %d, want %d", c.b, code, c.code)
		}
		checkReadAsked(t, c.b, 0)
	}
}

func TestReadFrameNotValid(t *testing.T) {
	token := zeroes(8)
	for _, c := range []struct {
		b    []byte
		code int
	}{
		{join([]byte{6, 0}, countAhead(zeroes(1500))), impl.OK},
		{join([]byte{6, 0}, countAhead(zeroes(1501))), impl.ErrForm},
		{join([]byte{6, 0}, varBytes(1501), zeroes(1500)), impl.ErrShort},
		{join([]byte{6}, varBytes(maxVar), []byte{0}), impl.OK},
		{join([]byte{6}, varBytes(maxVar), []byte{1, 9}), impl.ErrForm},
		{join([]byte{6}, varBytes(maxVar), []byte{1}), impl.ErrShort},
		{join([]byte{6, 0}, varBytes(maxVar), zeroes(100)), impl.ErrShort},
		{[]byte{7, 0}, impl.ErrForm},
		{[]byte{7, 1}, impl.ErrShort},
		{join([]byte{7}, countAhead(zeroes(64))), impl.OK},
		{join([]byte{7}, countAhead(zeroes(65))), impl.ErrForm},
		{join([]byte{7}, varBytes(65), zeroes(64)), impl.ErrShort},
		{join([]byte{10, 0}, countAhead(zeroes(1501))), impl.ErrForm},
		{join([]byte{14, 0}, varBytes(maxVar), []byte{1, 9}), impl.ErrForm},
		{join([]byte{14, 0}, varBytes(maxVar), []byte{2, 9}), impl.ErrShort},
		{join([]byte{14, 0}, varBytes(maxVar-1500), countAhead(zeroes(1500))), impl.OK},
		{join([]byte{14, 0}, varBytes(maxVar-1499), countAhead(zeroes(1500))), impl.ErrForm},
		{join([]byte{18}, varBytes(1<<60)), impl.OK},
		{join([]byte{19}, varBytes(1<<60)), impl.OK},
		{join([]byte{18}, varBytes(1<<60+1)), impl.ErrForm},
		{join([]byte{19}, varBytes(1<<60+1)), impl.ErrForm},
		{join([]byte{22}, varBytes(1<<60)), impl.OK},
		{join([]byte{23}, varBytes(1<<60)), impl.OK},
		{join([]byte{22}, varBytes(1<<60+1)), impl.ErrForm},
		{join([]byte{23}, varBytes(maxVar)), impl.ErrForm},
		{join([]byte{24, 1, 1, 1, 7}, token), impl.OK},
		{join([]byte{24, 1, 2, 1, 7}, token), impl.ErrForm},
		{join([]byte{24, 1, 2, 1, 7}, token[:7]), impl.ErrShort},
		{join([]byte{24, 1, 1, 0}, token), impl.ErrForm},
		{join([]byte{24, 1, 1, 0}, token[:7]), impl.ErrShort},
		{join([]byte{24, 1, 1, 8}, zeroes(8), token), impl.OK},
		{join([]byte{24, 1, 1, 9}, zeroes(9), token), impl.ErrForm},
		{join([]byte{24, 1, 1, 9}, zeroes(9), token[:7]), impl.ErrShort},
		// A byte, not a variable integer.
		{join([]byte{24, 1, 1, 64, 1, 7}, token), impl.ErrShort},
		{join([]byte{24, 1, 1, 255}, zeroes(255), token), impl.ErrForm},
		{join([]byte{24, 1, 1, 255}, zeroes(254), token), impl.ErrShort},
		{join([]byte{26}, zeroes(8)), impl.OK},
		{join([]byte{26}, zeroes(7)), impl.ErrShort},
		{join([]byte{27}, zeroes(7)), impl.ErrShort},
		{join([]byte{28, 1, 1}, countAhead(zeroes(200))), impl.OK},
		{join([]byte{28, 1, 1}, countAhead(zeroes(201))), impl.ErrForm},
		{join([]byte{28, 1, 1}, varBytes(201), zeroes(200)), impl.ErrShort},
		{join([]byte{29, 1}, countAhead(zeroes(200))), impl.OK},
		{join([]byte{29, 1}, countAhead(zeroes(201))), impl.ErrForm},
		{join([]byte{29, 1}, varBytes(maxVar), zeroes(200)), impl.ErrShort},
	} {
		if _, _, code := impl.ReadFrame(c.b, 0); code != c.code {
			t.Errorf("ReadFrame(%d bytes %x..) has the code %d, want %d", len(c.b), c.b[:min(len(c.b), 20)], code, c.code)
		}
		checkReadAsked(t, c.b, 0)
		checkReadAsked(t, join([]byte{200}, c.b), 1)
	}
}

func TestReadFrameDrawnBytes(t *testing.T) {
	more := numbers(54)
	codes := map[int]int{}
	for range 40000 {
		b := more.bytes(more.below(60))
		at := more.below(len(b) + 1)
		if at < len(b) {
			b[at] = byte(more.below(50))
			for i := at + 1; i < len(b); i++ {
				b[i] >>= more.below(8)
			}
		}
		codes[checkReadAsked(t, b, at)]++
	}
	for range 20000 {
		b := frameBytesAsked(drawnFrame(&more))
		b[more.below(len(b))] ^= 1 << more.below(8)
		codes[checkReadAsked(t, b[:len(b)-more.below(min(len(b), 3))], 0)]++
	}
	for _, code := range []int{impl.OK, impl.ErrShort, impl.ErrForm} {
		if codes[code] < 1000 {
			t.Errorf("the code %d was met %d times", code, codes[code])
		}
	}
}

// framesAsked is the chapter's rule of ReadFrames.
func framesAsked(b []byte) ([]impl.Frame, int) {
	if len(b) > 65536 {
		return nil, impl.ErrLong
	}
	if len(b) == 0 {
		return nil, impl.ErrForm
	}
	var list []impl.Frame
	for at := 0; at < len(b); {
		if len(list) == 256 {
			return nil, impl.ErrLong
		}
		f, next, code := readFrameAsked(b, at)
		if code != impl.OK {
			return nil, code
		}
		list = append(list, f)
		at = next
	}
	return list, impl.OK
}

func checkReadFrames(t *testing.T, b []byte, want []impl.Frame, code int) {
	t.Helper()
	list, gotCode := impl.ReadFrames(b)
	if gotCode != code || !slices.EqualFunc(list, want, sameFrame) {
		t.Errorf("ReadFrames(%d bytes %x..) has %d frames and the code %d, want %d and %d", len(b), b[:min(len(b), 60)], len(list), gotCode, len(want), code)
	}
}

func checkReadFramesAsked(t *testing.T, b []byte) {
	t.Helper()
	list, code := framesAsked(b)
	checkReadFrames(t, b, list, code)
}

func TestP5BodiesAreReadAsTheirFrames(t *testing.T) {
	more := numbers(55)
	for range 600 {
		var frames []impl.Frame
		var b []byte
		for range 1 + more.below(40) {
			f := drawnFrame(&more)
			last := len(frames) - 1
			if f.Kind == 0 && last >= 0 && frames[last].Kind == 0 {
				continue
			}
			frames = append(frames, f)
			b = join(b, frameBytesAsked(f))
		}
		checkReadFrames(t, b, frames, impl.OK)
	}
}

func TestP5ABodyOfEveryKind(t *testing.T) {
	var frames []impl.Frame
	var b []byte
	for _, c := range plainFrames() {
		frames = append(frames, c.f)
		b = join(b, c.b)
	}
	checkReadFrames(t, b, frames, impl.OK)
	last := impl.Frame{Kind: 8, A: 3, Data: []byte{1, 2, 3}}
	checkReadFrames(t, join(b, []byte{8, 3, 1, 2, 3}), append(slices.Clone(frames), last), impl.OK)
	checkReadFrames(t, join(b, []byte{48}), append(slices.Clone(frames), impl.Frame{Kind: 48}), impl.OK)
	for n := range b {
		checkReadFramesAsked(t, b[:n])
	}
}

func TestReadFramesPaddings(t *testing.T) {
	pad := func(n int) impl.Frame { return impl.Frame{Kind: 0, A: n} }
	ping := impl.Frame{Kind: 1}
	checkReadFrames(t, zeroes(1), []impl.Frame{pad(1)}, impl.OK)
	checkReadFrames(t, zeroes(1500), []impl.Frame{pad(1500)}, impl.OK)
	checkReadFrames(t, zeroes(1501), []impl.Frame{pad(1500), pad(1)}, impl.OK)
	checkReadFrames(t, zeroes(3000), []impl.Frame{pad(1500), pad(1500)}, impl.OK)
	checkReadFrames(t, join(zeroes(1501), []byte{1}, zeroes(3)), []impl.Frame{pad(1500), pad(1), ping, pad(3)}, impl.OK)
	// Two that touch are one.
	checkReadFrames(t, join(zeroes(2), zeroes(3), []byte{1}), []impl.Frame{pad(5), ping}, impl.OK)
	checkReadFramesAsked(t, zeroes(impl.MaxBytes))
}

func TestReadFramesHowMany(t *testing.T) {
	pings := func(n int) []byte { return bytes.Repeat([]byte{1}, n) }
	for _, n := range []int{1, 2, 255, 256} {
		checkReadFrames(t, pings(n), slices.Repeat([]impl.Frame{{Kind: 1}}, n), impl.OK)
	}
	for _, n := range []int{257, 258, 1000, impl.MaxBytes} {
		checkReadFrames(t, pings(n), nil, impl.ErrLong)
	}
	checkReadFrames(t, join(pings(255), zeroes(300)), append(slices.Repeat([]impl.Frame{{Kind: 1}}, 255), impl.Frame{Kind: 0, A: 300}), impl.OK)
	checkReadFrames(t, join(pings(256), zeroes(1)), nil, impl.ErrLong)
	checkReadFrames(t, join(pings(255), zeroes(1501)), nil, impl.ErrLong)
	// A stream's Data that goes to the end is no further frame.
	checkReadFrames(t, join(pings(255), []byte{8, 1, 1, 1}), append(slices.Repeat([]impl.Frame{{Kind: 1}}, 255), impl.Frame{Kind: 8, A: 1, Data: []byte{1, 1}}), impl.OK)
	// Wrong ahead of the limit, at it, and behind it.
	checkReadFrames(t, join([]byte{3}, pings(300)), nil, impl.ErrForm)
	checkReadFrames(t, join(pings(255), []byte{3}), nil, impl.ErrForm)
	checkReadFrames(t, join(pings(255), []byte{3}, pings(9)), nil, impl.ErrForm)
	checkReadFrames(t, join(pings(255), []byte{16}), nil, impl.ErrShort)
	checkReadFrames(t, join(pings(256), []byte{3}), nil, impl.ErrLong)
	checkReadFrames(t, join(pings(256), []byte{16}), nil, impl.ErrLong)
	checkReadFrames(t, join(pings(300), []byte{3}), nil, impl.ErrLong)
}

func TestReadFramesRefuses(t *testing.T) {
	checkReadFrames(t, nil, nil, impl.ErrForm)
	checkReadFrames(t, []byte{}, nil, impl.ErrForm)
	for _, c := range []struct {
		b    []byte
		code int
	}{
		{[]byte{3}, impl.ErrForm}, {[]byte{16}, impl.ErrShort}, {[]byte{1, 1, 3}, impl.ErrForm}, {[]byte{1, 1, 16}, impl.ErrShort},
		{[]byte{7, 0, 16}, impl.ErrForm}, {[]byte{1, 26, 1, 2, 3}, impl.ErrShort}, {[]byte{30, 2, 9, 0, 64, 64}, impl.ErrForm},
		{[]byte{1, 3, 26}, impl.ErrForm}, {[]byte{1, 26, 3}, impl.ErrShort},
	} {
		checkReadFrames(t, c.b, nil, c.code)
	}
	checkReadFrames(t, bytes.Repeat([]byte{3}, impl.MaxBytes), nil, impl.ErrForm)
	checkReadFrames(t, bytes.Repeat([]byte{3}, impl.MaxBytes+1), nil, impl.ErrLong)
	checkReadFrames(t, zeroes(impl.MaxBytes+1), nil, impl.ErrLong)
	more := numbers(56)
	for range 20000 {
		b := more.bytes(1 + more.below(40))
		for i := range b {
			if more.below(3) > 0 {
				b[i] = []byte{0, 1, 2, 4, 10, 30, 48, 28, 20}[more.below(9)]
			}
		}
		checkReadFramesAsked(t, b)
	}
}

type fencedFrame struct {
	f           impl.Frame
	data, token fenced[byte]
	ranges      fenced[impl.Range]
}

func fenceFrame(f impl.Frame) fencedFrame {
	out := fencedFrame{f, fence(f.Data, 90), fence(f.Token, 91), fence(f.Ranges, impl.Range{Lo: -7, Hi: -8})}
	out.f.Data, out.f.Token, out.f.Ranges = out.data.list, out.token.list, out.ranges.list
	return out
}

func (f fencedFrame) check(t *testing.T, call string) {
	t.Helper()
	f.data.check(t, call)
	f.token.check(t, call)
	f.ranges.check(t, call)
}

func TestP1FrameBytesMemory(t *testing.T) {
	for _, c := range plainFrames() {
		f := fenceFrame(c.f)
		checkFresh(t, "FrameBytes", func() [][]byte {
			b, _ := impl.FrameBytes(f.f)
			return [][]byte{b}
		}, func() { f.check(t, "FrameBytes") })
		impl.FrameOK(f.f)
		f.check(t, "FrameOK")
	}
	for _, wrong := range wrongFrames() {
		f := fenceFrame(wrong)
		impl.FrameOK(f.f)
		impl.FrameBytes(f.f)
		f.check(t, "FrameBytes")
	}
}

// spoilRanges writes over the ranges and over the room behind their end.
func spoilRanges(list []impl.Range) {
	whole := list[:cap(list)]
	for i := range whole {
		whole[i] = impl.Range{Lo: -5, Hi: -6}
	}
}

func TestP1ReadFrameMemory(t *testing.T) {
	for _, c := range plainFrames() {
		b := fence(join([]byte{200, 201}, c.b), 92)
		checkFresh(t, "ReadFrame", func() [][]byte {
			f, _, _ := impl.ReadFrame(b.list, 2)
			return [][]byte{f.Data, f.Token}
		}, func() { b.check(t, "ReadFrame") })
		f, _, _ := impl.ReadFrame(b.list, 2)
		spoilRanges(f.Ranges)
		b.check(t, "ReadFrame")
		checkReadFrame(t, b.list, 2, c.f, len(b.list), impl.OK)
	}
}

func TestP1ReadFramesMemory(t *testing.T) {
	var body []byte
	var want []impl.Frame
	for range 2 {
		for _, c := range plainFrames()[1:] {
			body = join(body, c.b)
			want = append(want, c.f)
		}
	}
	body = join(body, []byte{48, 1, 2, 3})
	want = append(want, impl.Frame{Kind: 48, Data: []byte{1, 2, 3}})
	b := fence(body, 93)
	checkFresh(t, "ReadFrames", func() [][]byte {
		var lists [][]byte
		frames, _ := impl.ReadFrames(b.list)
		for _, f := range frames {
			lists = append(lists, f.Data, f.Token)
		}
		return lists
	}, func() { b.check(t, "ReadFrames") })
	frames, _ := impl.ReadFrames(b.list)
	for i := range frames {
		spoilRanges(frames[i].Ranges)
		frames[i].Ranges = nil
		for j := range frames {
			if j > i && !sameFrame(frames[j], want[j]) {
				t.Errorf("frame %d shares memory with frame %d", j, i)
			}
		}
	}
	clear(frames[:cap(frames)])
	b.check(t, "ReadFrames")
	checkReadFrames(t, b.list, want, impl.OK)
}

// What stands behind the end of b is not of b.
func TestP1NoFrameBehindTheEndIsRead(t *testing.T) {
	whole := join([]byte{6, 0, 4}, []byte{1, 2, 3, 4}, zeroes(20))
	for n := range 7 {
		checkReadAsked(t, whole[:n], 0)
		checkReadFramesAsked(t, whole[:n])
	}
	checkReadFrame(t, zeroes(10)[:3], 0, impl.Frame{Kind: 0, A: 3}, 3, impl.OK)
	checkReadFrame(t, []byte{48, 1, 2, 3}[:2], 0, impl.Frame{Kind: 48, Data: []byte{1}}, 2, impl.OK)
}

func TestP1FramesTakeAnyIntegers(t *testing.T) {
	odd := append(oddInts(), 1500, 1501, 1<<60+1)
	kinds := []int{-1, 3, 19, 49, 50, math.MinInt, math.MaxInt}
	for _, row := range kindRows {
		kinds = append(kinds, row.kind)
	}
	for _, v := range odd {
		mustEnd(t, fmt.Sprintf("frames with %d", v), func() {
			for _, kind := range kinds {
				for _, w := range []int{0, 1, v, -v} {
					for _, f := range []impl.Frame{{Kind: kind, A: v, B: w}, {Kind: kind, A: w, B: v}, {Kind: kind, A: w, B: w, C: v}, {Kind: kind, Ranges: []impl.Range{{Lo: v, Hi: w}, {Lo: w, Hi: v}}}, {Kind: kind, Ranges: []impl.Range{{Lo: w, Hi: v}}}} {
						checkFrameAsked(t, f)
						f.Data, f.Token = zeroes(8), zeroes(8)
						checkFrameAsked(t, f)
					}
				}
				impl.FrameFits(kind, v)
			}
			impl.FrameFits(v, v)
			impl.Asks(v)
			for _, b := range [][]byte{nil, {}, {1}, zeroes(20), bytes.Repeat([]byte{255}, 20), {2, 255, 255, 255, 255, 255, 255, 255, 255}} {
				checkReadAsked(t, b, v)
			}
		})
	}
}
