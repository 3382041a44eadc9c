package tests

import (
	"fmt"
	"math"
	"slices"
	"testing"

	"loop.example/g00012/impl"
)

func risesAsked(sent []int) bool {
	for i, n := range sent {
		if !inRange(n, 0, maxVar) || i > 0 && sent[i-1] >= n {
			return false
		}
	}
	return true
}

func ackedAsked(f impl.Frame, sent []int) ([]int, int) {
	switch {
	case len(sent) > 4096:
		return nil, 4
	case f.Kind != 2 || !frameOKAsked(f):
		return nil, 1
	case !risesAsked(sent):
		return nil, 1
	}
	var acked []int
	for _, n := range sent {
		if hasAsked(f.Ranges, n) {
			acked = append(acked, n)
		}
	}
	return acked, 0
}

func checkAckFrame(t *testing.T, list []impl.Range, delay int, code int) {
	t.Helper()
	want := impl.Frame{}
	if code == impl.OK {
		want = impl.Frame{Kind: 2, A: delay, Ranges: list}
	}
	got, gotCode := impl.AckFrame(list, delay)
	if gotCode != code || !sameFrame(got, want) {
		t.Errorf("AckFrame(%s, %d) = %s, %d, want code %d", toldRanges(list), delay, told(got), gotCode, code)
	}
}

func checkAcked(t *testing.T, f impl.Frame, sent, want []int, code int) {
	t.Helper()
	got, gotCode := impl.AckedBy(f, sent)
	if gotCode != code || !slices.Equal(got, want) {
		t.Errorf("AckedBy(%s, %d numbers %v..) = %v %d, want %v %d", told(f), len(sent), sent[:min(len(sent), 20)], got, gotCode, want, code)
	}
}

func checkAckedAsked(t *testing.T, f impl.Frame, sent []int) {
	t.Helper()
	want, code := ackedAsked(f, sent)
	checkAcked(t, f, sent, want, code)
}

// rising are count numbers from low on, step apart.
func rising(count, low, step int) []int {
	list := make([]int, count)
	for i := range list {
		list[i] = low + step*i
	}
	return list
}

func TestP6AckFrame(t *testing.T) {
	for _, list := range [][]impl.Range{
		pairs(0, 0), pairs(maxVar, maxVar), pairs(0, maxVar), pairs(2, 3, 6, 8), spacedRanges(63, 0), spacedRanges(64, 0), spacedRanges(64, maxVar-126), wideRanges(64, 8),
	} {
		for _, delay := range []int{0, 1, 4, 63, 64, maxVar - 1, maxVar} {
			checkAckFrame(t, list, delay, impl.OK)
			if f, _ := impl.AckFrame(list, delay); !impl.FrameOK(f) {
				t.Errorf("AckFrame(%s, %d) = %s, which is not valid", toldRanges(list), delay, told(f))
			}
		}
		for _, delay := range []int{-1, maxVar + 1, math.MinInt, math.MaxInt} {
			checkAckFrame(t, list, delay, impl.ErrBad)
		}
	}
}

func TestAckFrameRefuses(t *testing.T) {
	for _, list := range append(wrongRanges(), nil, []impl.Range{}, pairs(1, 2, 5, 6)[:0]) {
		for _, delay := range []int{0, 7, maxVar, -1, maxVar + 1, math.MinInt, math.MaxInt} {
			checkAckFrame(t, list, delay, impl.ErrBad)
		}
	}
}

func TestP6AckedByWrittenOut(t *testing.T) {
	f := impl.Frame{Kind: 2, A: 9, Ranges: pairs(2, 3, 6, 8, 20, 20)}
	for _, c := range []struct{ sent, want []int }{
		{nil, nil}, {[]int{}, nil}, {[]int{0}, nil}, {[]int{1}, nil}, {[]int{2}, []int{2}}, {[]int{3}, []int{3}}, {[]int{4}, nil}, {[]int{5}, nil},
		{[]int{6}, []int{6}}, {[]int{7}, []int{7}}, {[]int{8}, []int{8}}, {[]int{9}, nil}, {[]int{19}, nil}, {[]int{20}, []int{20}}, {[]int{21}, nil}, {[]int{maxVar}, nil},
		{[]int{0, 1, 2, 3, 4, 5, 6, 7, 8, 9}, []int{2, 3, 6, 7, 8}}, {[]int{3, 7, 20, maxVar}, []int{3, 7, 20}}, {[]int{0, 1, 4, 5, 9, 19, 21, maxVar}, nil},
		{rising(4096, 0, 1), []int{2, 3, 6, 7, 8, 20}},
	} {
		checkAcked(t, f, c.sent, c.want, impl.OK)
		f.A = maxVar - f.A
	}
	all := impl.Frame{Kind: 2, Ranges: pairs(0, maxVar)}
	for _, sent := range [][]int{{0}, {maxVar}, {0, maxVar}, {0, 1, 1 << 40, maxVar - 1, maxVar}, rising(4095, 7, 3), rising(4096, 7, 3), rising(4096, maxVar-4095, 1)} {
		checkAcked(t, all, sent, sent, impl.OK)
	}
	ends := impl.Frame{Kind: 2, Ranges: pairs(0, 0, maxVar, maxVar)}
	checkAcked(t, ends, []int{0, 1, maxVar - 1, maxVar}, []int{0, maxVar}, impl.OK)
	checkAcked(t, ends, []int{1, maxVar - 1}, nil, impl.OK)
}

// wrongSent are lists that do not rise, or have a number that is none.
func wrongSent() [][]int {
	return [][]int{
		{2, 2}, {0, 0}, {maxVar, maxVar}, {3, 2}, {2, 6, 6}, {2, 6, 5}, {2, 2, 6}, {6, 2, 7}, {0, 1, 2, 1}, {2, 6, 7, 8, 9, 9},
		{-1}, {-1, 2}, {2, -1}, {math.MinInt}, {math.MinInt, 2}, {maxVar + 1}, {2, maxVar + 1}, {2, maxVar, maxVar + 1}, {math.MaxInt}, {2, math.MaxInt},
		{-2, -1}, {maxVar + 1, maxVar + 2}, {math.MinInt, math.MaxInt}, make([]int, 4096), slices.Concat(rising(4095, 0, 1), []int{4094}), slices.Concat(rising(4095, 0, 1), []int{-1}),
		slices.Concat([]int{1}, rising(4095, 1, 1)),
	}
}

func TestAckedByRefusesSent(t *testing.T) {
	f := impl.Frame{Kind: 2, A: 9, Ranges: pairs(2, 3, 6, 8)}
	for _, sent := range wrongSent() {
		checkAcked(t, f, sent, nil, impl.ErrBad)
		checkAcked(t, impl.Frame{Kind: 2, Ranges: pairs(0, maxVar)}, sent, nil, impl.ErrBad)
	}
}

// wrongAcks are frames of other kinds, and acknowledgements of which one thing is wrong.
func wrongAcks() []impl.Frame {
	var list []impl.Frame
	for _, c := range plainFrames() {
		if c.f.Kind != 2 {
			list = append(list, c.f)
		}
	}
	good := impl.Frame{Kind: 2, A: 9, Ranges: pairs(2, 3, 6, 8)}
	for _, change := range []func(f *impl.Frame){
		func(f *impl.Frame) { f.Kind = 0 },
		func(f *impl.Frame) { f.Kind = 1 },
		func(f *impl.Frame) { f.Kind = 3 },
		func(f *impl.Frame) { f.Kind = -2 },
		func(f *impl.Frame) { f.Kind = math.MinInt },
		func(f *impl.Frame) { f.Kind = math.MaxInt },
		func(f *impl.Frame) { f.A = -1 },
		func(f *impl.Frame) { f.A = maxVar + 1 },
		func(f *impl.Frame) { f.A = math.MinInt },
		func(f *impl.Frame) { f.A = math.MaxInt },
		func(f *impl.Frame) { f.B = 1 },
		func(f *impl.Frame) { f.C = 1 },
		func(f *impl.Frame) { f.B = -1 },
		func(f *impl.Frame) { f.C = -1 },
		func(f *impl.Frame) { f.Fin = true },
		func(f *impl.Frame) { f.Data = []byte{0} },
		func(f *impl.Frame) { f.Token = zeroes(8) },
		func(f *impl.Frame) { f.Ranges = nil },
		func(f *impl.Frame) { f.Ranges = []impl.Range{} },
	} {
		f := good
		change(&f)
		list = append(list, f)
	}
	for _, ranges := range wrongRanges() {
		list = append(list, impl.Frame{Kind: 2, A: 9, Ranges: ranges})
	}
	return append(list, impl.Frame{})
}

func TestAckedByRefusesFrames(t *testing.T) {
	for _, f := range wrongAcks() {
		for _, sent := range [][]int{nil, {}, {2}, {1, 2, 5, 8}, {2, 2}, {-1}, rising(4096, 0, 1)} {
			checkAcked(t, f, sent, nil, impl.ErrBad)
		}
	}
}

// Too long is told ahead of all else that is wrong.
func TestAckedByOrderOfCodes(t *testing.T) {
	long := [][]int{rising(4097, 0, 1), make([]int, 4097), rising(4097, -5, 1), rising(4097, maxVar-4095, 1), rising(4097, 5000, -1), rising(70000, 0, 1)}
	for _, sent := range long {
		checkAcked(t, impl.Frame{Kind: 2, A: 9, Ranges: pairs(2, 3, 6, 8)}, sent, nil, impl.ErrLong)
		for _, f := range wrongAcks() {
			checkAcked(t, f, sent, nil, impl.ErrLong)
		}
	}
	whole := rising(4097, 0, 1)
	checkAcked(t, impl.Frame{Kind: 2, Ranges: pairs(4090, 5000)}, whole[:4096], whole[4090:4096], impl.OK)
}

// addedRun is a list to which numbers are added one by one, and the set of what is to be in it.
type addedRun struct {
	list      []impl.Range
	set       map[int]bool
	low, span int
}

func (a *addedRun) add(t *testing.T, n int) {
	t.Helper()
	var code int
	a.list, code = impl.RangesAdd(a.list, n)
	a.set[n] = true
	want := rangesOfSet(a.set)
	if len(want) > 64 {
		for v := want[0].Lo; v <= want[0].Hi; v++ {
			delete(a.set, v)
		}
		want = want[1:]
	}
	if code != impl.OK || !slices.Equal(a.list, want) {
		t.Fatalf("behind %d the list is %v %d, want %v", n, a.list, code, want)
	}
	checkRanges(t, a.list, true, len(a.set))
}

func (a *addedRun) checkHas(t *testing.T) {
	t.Helper()
	for n := a.low - 1; n <= a.low+a.span; n++ {
		checkHas(t, a.list, n, a.set[n])
	}
}

// checkAck sends the acknowledgement as bytes, and asks for any numbers of which some were sent.
func (a *addedRun) checkAck(t *testing.T, more *numbers) {
	t.Helper()
	delay := more.variable()
	f, code := impl.AckFrame(a.list, delay)
	b, _ := impl.FrameBytes(f)
	back, next, backCode := impl.ReadFrame(b, 0)
	if code != impl.OK || backCode != impl.OK || next != len(b) || !sameFrame(back, impl.Frame{Kind: 2, A: delay, Ranges: a.list}) {
		t.Fatalf("%v: its frame is %s %d, read back %s %d", a.list, told(f), code, told(back), backCode)
	}
	var sent, want []int
	for n := a.low; n < a.low+a.span && len(sent) < 4096; n++ {
		if more.below(4) == 0 {
			continue
		}
		sent = append(sent, n)
		if a.set[n] {
			want = append(want, n)
		}
	}
	checkAcked(t, back, sent, want, impl.OK)
}

func TestP6NumbersAddedOneByOne(t *testing.T) {
	more := numbers(62)
	for _, span := range []int{1, 2, 10, 100, 127, 129, 150, 200, 300, 1000, 5000} {
		for _, low := range []int{0, 1, 70000, maxVar - span + 1} {
			run := addedRun{set: map[int]bool{}, low: low, span: span}
			for i := range min(2*span, 500) {
				run.add(t, low+more.below(span))
				if i%10 == 0 {
					run.checkHas(t)
					run.checkAck(t, &more)
				}
			}
			run.checkHas(t)
			run.checkAck(t, &more)
		}
	}
}

// Numbers that rise, fall, come from both ends or leave gaps that are filled later.
func TestP6NumbersAddedInAnOrder(t *testing.T) {
	more := numbers(63)
	const span = 300
	orders := map[string]func(i int) int{
		"rising":          func(i int) int { return i },
		"falling":         func(i int) int { return span - 1 - i },
		"both ends":       func(i int) int { return []int{i / 2, span - 1 - i/2}[i%2] },
		"gaps first":      func(i int) int { return 2*i%span + 2*i/span },
		"gaps falling":    func(i int) int { return span - 1 - (2*i%span + 2*i/span) },
		"gaps of two":     func(i int) int { return 3*i%span + 3*i/span },
		"one over":        func(i int) int { return i ^ 1 },
		"each twice":      func(i int) int { return i / 2 },
		"middle outwards": func(i int) int { return []int{span/2 + i/2, span/2 - 1 - i/2}[i%2] },
	}
	for name, order := range orders {
		for _, low := range []int{0, maxVar - span + 1} {
			run := addedRun{set: map[int]bool{}, low: low, span: span}
			for i := range span {
				n := order(i)
				if !inRange(n, 0, span-1) {
					t.Fatalf("%s: %d", name, n)
				}
				run.add(t, low+n)
			}
			run.checkHas(t)
			run.checkAck(t, &more)
		}
	}
}

// Numbers that lie as far apart as they like.
func TestP6AnyNumbersAdded(t *testing.T) {
	more := numbers(64)
	for range 40 {
		var list []impl.Range
		var came []int
		for range 120 {
			n := more.variable()
			if len(came) > 0 && more.below(3) == 0 {
				n = min(max(came[more.below(len(came))]+more.below(5)-2, 0), maxVar)
			}
			came = append(came, n)
			checkNumberAsked(t, list, n)
			list, _ = impl.RangesAdd(list, n)
			checkListAsked(t, list)
			checkHas(t, list, n, n >= list[0].Lo)
		}
		slices.Sort(came)
		came = slices.Compact(came)
		f, _ := impl.AckFrame(list, 0)
		// All that came and did not go with a lowest range is told.
		kept := came[slices.IndexFunc(came, func(n int) bool { return n >= list[0].Lo }):]
		checkAcked(t, f, came, kept, impl.OK)
	}
}

func TestAckedByDrawn(t *testing.T) {
	more := numbers(65)
	wrong, bad := wrongAcks(), wrongSent()
	for range 3000 {
		f := impl.Frame{Kind: 2, A: more.variable(), Ranges: drawnRanges(&more, 1+more.below(1<<more.below(7)))}
		var sent []int
		for range more.below(60) {
			r := f.Ranges[more.below(len(f.Ranges))]
			sent = append(sent, min(max([]int{r.Lo, r.Hi}[more.below(2)]+more.below(5)-2, 0), maxVar))
		}
		slices.Sort(sent)
		checkAckedAsked(t, f, sent)
		sent = slices.Compact(sent)
		checkAckedAsked(t, f, sent)
		checkAckedAsked(t, f, bad[more.below(len(bad))])
		checkAckedAsked(t, wrong[more.below(len(wrong))], sent)
	}
}

func TestP1AckFrameMemory(t *testing.T) {
	for _, list := range append(wrongRanges(), nil, pairs(0, 0), pairs(2, 3, 6, 8), spacedRanges(64, 5)) {
		arg := amid(list, impl.Range{Lo: 3, Hi: 4})
		for _, delay := range []int{0, maxVar, -1} {
			checkFreshRanges(t, "AckFrame", arg, func() []impl.Range {
				f, _ := impl.AckFrame(arg.list, delay)
				return f.Ranges
			})
		}
	}
}

func TestP1AckedByMemory(t *testing.T) {
	frames := append(wrongAcks(), impl.Frame{Kind: 2, A: 9, Ranges: pairs(2, 3, 6, 8)}, impl.Frame{Kind: 2, Ranges: pairs(0, maxVar)}, impl.Frame{Kind: 2, Ranges: spacedRanges(64, 0)})
	for _, frame := range frames {
		f := fenceFrame(frame)
		for _, plain := range append(wrongSent(), nil, []int{0}, []int{1, 2, 5, 8}, rising(40, 0, 1), rising(4097, 0, 1)) {
			sent := amid(plain, 7)
			check := func() {
				t.Helper()
				f.check(t, "AckedBy")
				sent.check(t, "AckedBy")
			}
			first, _ := impl.AckedBy(f.f, sent.list)
			want := slices.Clone(first)
			check()
			for i := range first[:cap(first)] {
				first[:cap(first)][i] = -9
			}
			check()
			if again, _ := impl.AckedBy(f.f, sent.list); !slices.Equal(again, want) {
				t.Errorf("AckedBy: a later answer is %v, want %v", again, want)
			}
		}
	}
}

func TestP1AcksTakeAnyIntegers(t *testing.T) {
	odd := oddInts()
	for _, v := range odd {
		mustEnd(t, fmt.Sprintf("acknowledgements with %d", v), func() {
			impl.AckFrame(nil, v)
			checkAckFrame(t, pairs(2, 3), v, map[bool]int{true: impl.OK, false: impl.ErrBad}[inRange(v, 0, maxVar)])
			for _, w := range odd {
				f := impl.Frame{Kind: 2, A: 3, Ranges: pairs(v, w)}
				checkAckedAsked(t, f, []int{v, w})
				checkAckedAsked(t, impl.Frame{Kind: 2, A: v, Ranges: pairs(0, maxVar)}, []int{w})
				checkAckedAsked(t, impl.Frame{Kind: 2, Ranges: pairs(0, maxVar)}, []int{v, w})
			}
			checkAckedAsked(t, impl.Frame{Kind: v, A: 3, Ranges: pairs(1, 2)}, []int{1})
			checkAckedAsked(t, impl.Frame{Kind: 2, B: v, Ranges: pairs(1, 2)}, []int{1})
			checkAckedAsked(t, impl.Frame{Kind: 2, C: v, Ranges: pairs(1, 2)}, []int{1})
		})
	}
}
