package tests

import (
	"fmt"
	"math"
	"slices"
	"testing"

	"loop.example/g00012/impl"
)

// rangesOfSet are the runs of numbers of a set: of a few numbers this is the valid list itself.
func rangesOfSet(set map[int]bool) []impl.Range {
	var list []impl.Range
	for n := range set {
		if set[n-1] {
			continue
		}
		r := impl.Range{Lo: n, Hi: n}
		for set[r.Hi+1] {
			r.Hi++
		}
		list = append(list, r)
	}
	slices.SortFunc(list, func(a, b impl.Range) int { return a.Lo - b.Lo })
	return list
}

// addAsked lays n behind the list as a range of its own, sorts, and joins what touches.
func addAsked(list []impl.Range, n int) []impl.Range {
	all := append(slices.Clone(list), impl.Range{Lo: n, Hi: n})
	slices.SortFunc(all, func(a, b impl.Range) int { return a.Lo - b.Lo })
	var out []impl.Range
	for _, r := range all {
		if last := len(out) - 1; last >= 0 && r.Lo-1 <= out[last].Hi {
			out[last].Hi = max(out[last].Hi, r.Hi)
		} else {
			out = append(out, r)
		}
	}
	if len(out) > 64 {
		out = out[1:]
	}
	return out
}

func fromAsked(list []impl.Range, n int) []impl.Range {
	var out []impl.Range
	for _, r := range list {
		if r.Lo >= n {
			out = append(out, r)
		} else if r.Hi >= n {
			out = append(out, impl.Range{Lo: n, Hi: r.Hi})
		}
	}
	return out
}

func hasAsked(list []impl.Range, n int) bool {
	return slices.ContainsFunc(list, func(r impl.Range) bool { return inRange(n, r.Lo, r.Hi) })
}

func countAsked(list []impl.Range) int {
	count := 0
	for _, r := range list {
		count += r.Hi - r.Lo + 1
	}
	return count
}

// toldRanges does not fill a page with a long list.
func toldRanges(list []impl.Range) string {
	if len(list) > 80 {
		return fmt.Sprintf("%d ranges %v..", len(list), list[:3])
	}
	return fmt.Sprint(list)
}

func checkAdd(t *testing.T, list []impl.Range, n int, want []impl.Range, code int) {
	t.Helper()
	got, gotCode := impl.RangesAdd(list, n)
	if gotCode != code || !slices.Equal(got, want) {
		t.Errorf("RangesAdd(%s, %d) = %v %d, want %v %d", toldRanges(list), n, got, gotCode, want, code)
	}
	if !impl.RangesOK(got) {
		t.Errorf("RangesAdd(%s, %d) = %v, which is not valid", toldRanges(list), n, got)
	}
}

func checkFrom(t *testing.T, list []impl.Range, n int, want []impl.Range, code int) {
	t.Helper()
	got, gotCode := impl.RangesFrom(list, n)
	if gotCode != code || !slices.Equal(got, want) {
		t.Errorf("RangesFrom(%s, %d) = %v %d, want %v %d", toldRanges(list), n, got, gotCode, want, code)
	}
	if !impl.RangesOK(got) {
		t.Errorf("RangesFrom(%s, %d) = %v, which is not valid", toldRanges(list), n, got)
	}
}

func checkHas(t *testing.T, list []impl.Range, n int, want bool) {
	t.Helper()
	if got := impl.RangesHas(list, n); got != want {
		t.Errorf("RangesHas(%s, %d) = %v", toldRanges(list), n, got)
	}
}

// checkRanges is for what is asked of a list without a number.
func checkRanges(t *testing.T, list []impl.Range, ok bool, count int) {
	t.Helper()
	if got := impl.RangesOK(list); got != ok {
		t.Errorf("RangesOK(%s) = %v", toldRanges(list), got)
	}
	if got := impl.RangesCount(list); got != count {
		t.Errorf("RangesCount(%s) = %d, want %d", toldRanges(list), got, count)
	}
}

// checkNumberAsked holds all that takes a list and a number against the rules written out anew.
func checkNumberAsked(t *testing.T, list []impl.Range, n int) {
	t.Helper()
	if !rangesOKAsked(list) {
		checkAdd(t, list, n, nil, impl.ErrBad)
		checkFrom(t, list, n, nil, impl.ErrBad)
		checkHas(t, list, n, false)
		return
	}
	checkHas(t, list, n, hasAsked(list, n))
	if !inRange(n, 0, maxVar) {
		checkAdd(t, list, n, nil, impl.ErrBad)
		checkFrom(t, list, n, nil, impl.ErrBad)
		return
	}
	checkAdd(t, list, n, addAsked(list, n), impl.OK)
	checkFrom(t, list, n, fromAsked(list, n), impl.OK)
}

func checkListAsked(t *testing.T, list []impl.Range) {
	t.Helper()
	if rangesOKAsked(list) {
		checkRanges(t, list, true, countAsked(list))
	} else {
		checkRanges(t, list, false, 0)
	}
}

// pairs are ranges by their ends, two by two.
func pairs(ends ...int) []impl.Range {
	var list []impl.Range
	for i := 0; i < len(ends); i += 2 {
		list = append(list, impl.Range{Lo: ends[i], Hi: ends[i+1]})
	}
	return list
}

func TestP6AddWrittenOut(t *testing.T) {
	two := pairs(10, 12, 16, 20)
	for _, c := range []struct {
		list []impl.Range
		n    int
		want []impl.Range
	}{
		{nil, 0, pairs(0, 0)}, {nil, 7, pairs(7, 7)}, {nil, maxVar, pairs(maxVar, maxVar)},
		{[]impl.Range{}, 7, pairs(7, 7)},
		{pairs(0, 0), 0, pairs(0, 0)}, {pairs(0, 0), 1, pairs(0, 1)}, {pairs(0, 0), 2, pairs(0, 0, 2, 2)},
		{pairs(1, 1), 0, pairs(0, 1)}, {pairs(2, 2), 0, pairs(0, 0, 2, 2)},
		{pairs(0, maxVar), 0, pairs(0, maxVar)}, {pairs(0, maxVar), 5, pairs(0, maxVar)}, {pairs(0, maxVar), maxVar, pairs(0, maxVar)},
		{pairs(1, maxVar), 0, pairs(0, maxVar)}, {pairs(2, maxVar), 0, pairs(0, 0, 2, maxVar)},
		{pairs(0, maxVar-1), maxVar, pairs(0, maxVar)}, {pairs(0, maxVar-2), maxVar, pairs(0, maxVar-2, maxVar, maxVar)},
		{pairs(maxVar, maxVar), maxVar - 1, pairs(maxVar-1, maxVar)}, {pairs(maxVar, maxVar), maxVar - 2, pairs(maxVar-2, maxVar-2, maxVar, maxVar)},
		{pairs(0, 4, 6, maxVar), 5, pairs(0, maxVar)}, {pairs(0, 0, maxVar, maxVar), 1, pairs(0, 1, maxVar, maxVar)},
		{two, 0, pairs(0, 0, 10, 12, 16, 20)}, {two, 8, pairs(8, 8, 10, 12, 16, 20)}, {two, 9, pairs(9, 12, 16, 20)},
		{two, 10, two}, {two, 11, two}, {two, 12, two},
		{two, 13, pairs(10, 13, 16, 20)}, {two, 14, pairs(10, 12, 14, 14, 16, 20)}, {two, 15, pairs(10, 12, 15, 20)},
		{two, 16, two}, {two, 18, two}, {two, 20, two},
		{two, 21, pairs(10, 12, 16, 21)}, {two, 22, pairs(10, 12, 16, 20, 22, 22)}, {two, maxVar, pairs(10, 12, 16, 20, maxVar, maxVar)},
		{pairs(1, 2, 4, 5), 3, pairs(1, 5)}, {pairs(1, 1, 3, 3, 5, 5), 2, pairs(1, 3, 5, 5)}, {pairs(1, 1, 3, 3, 5, 5), 4, pairs(1, 1, 3, 5)},
		{pairs(1, 1, 3, 3, 5, 5), 0, pairs(0, 1, 3, 3, 5, 5)}, {pairs(1, 1, 3, 3, 5, 5), 6, pairs(1, 1, 3, 3, 5, 6)},
		{pairs(1, 1, 4, 4, 7, 7), 5, pairs(1, 1, 4, 5, 7, 7)}, {pairs(1, 1, 4, 4, 7, 7), 6, pairs(1, 1, 4, 4, 6, 7)},
	} {
		checkAdd(t, c.list, c.n, c.want, impl.OK)
		if asked := addAsked(c.list, c.n); !slices.Equal(asked, c.want) {
			t.Errorf("%v and %d: the rule written out anew has %v", c.list, c.n, asked)
		}
	}
}

func TestP6FromWrittenOut(t *testing.T) {
	two := pairs(10, 12, 16, 20)
	for _, c := range []struct {
		list []impl.Range
		n    int
		want []impl.Range
	}{
		{nil, 0, nil}, {nil, maxVar, nil}, {[]impl.Range{}, 3, nil},
		{two, 0, two}, {two, 9, two}, {two, 10, two}, {two, 11, pairs(11, 12, 16, 20)}, {two, 12, pairs(12, 12, 16, 20)},
		{two, 13, pairs(16, 20)}, {two, 15, pairs(16, 20)}, {two, 16, pairs(16, 20)}, {two, 17, pairs(17, 20)}, {two, 20, pairs(20, 20)},
		{two, 21, nil}, {two, maxVar, nil},
		{pairs(0, 0), 0, pairs(0, 0)}, {pairs(0, 0), 1, nil},
		{pairs(0, maxVar), 0, pairs(0, maxVar)}, {pairs(0, maxVar), 1, pairs(1, maxVar)}, {pairs(0, maxVar), maxVar, pairs(maxVar, maxVar)},
		{pairs(0, 3, maxVar, maxVar), maxVar, pairs(maxVar, maxVar)}, {pairs(0, 3, 5, maxVar-1), maxVar, nil},
		{pairs(1, 1, 3, 3, 5, 5), 3, pairs(3, 3, 5, 5)}, {pairs(1, 1, 3, 3, 5, 5), 4, pairs(5, 5)},
	} {
		checkFrom(t, c.list, c.n, c.want, impl.OK)
		if asked := fromAsked(c.list, c.n); !slices.Equal(asked, c.want) {
			t.Errorf("%v from %d: the rule written out anew has %v", c.list, c.n, asked)
		}
	}
}

func TestP6HasAndCountWrittenOut(t *testing.T) {
	two := pairs(10, 12, 16, 20)
	for n, want := range map[int]bool{
		0: false, 9: false, 10: true, 11: true, 12: true, 13: false, 14: false, 15: false, 16: true, 18: true, 20: true, 21: false,
		maxVar: false, -1: false, -10: false, maxVar + 1: false, math.MinInt: false, math.MaxInt: false,
	} {
		checkHas(t, two, n, want)
		checkHas(t, nil, n, false)
		checkHas(t, []impl.Range{}, n, false)
		checkHas(t, pairs(0, maxVar), n, n >= 0 && n <= maxVar)
	}
	for _, c := range []struct {
		list  []impl.Range
		count int
	}{
		{nil, 0}, {[]impl.Range{}, 0}, {pairs(0, 0), 1}, {pairs(maxVar, maxVar), 1}, {two, 8},
		{pairs(0, maxVar), 1 << 62}, {pairs(1, maxVar), maxVar}, {pairs(0, 4, 6, maxVar), maxVar}, {spacedRanges(64, 0), 64},
		{spacedRanges(64, maxVar-126), 64}, {spacedRanges(1, 9), 1},
	} {
		checkRanges(t, c.list, true, c.count)
	}
}

// setFrom are the numbers from low on whose bits are set.
func setFrom(bits, low int) map[int]bool {
	set := map[int]bool{}
	for i := range 10 {
		if bits>>i&1 == 1 {
			set[low+i] = true
		}
	}
	return set
}

// Every set of ten numbers, at both ends of what a list may hold.
func TestP6EverySetOfTen(t *testing.T) {
	for _, low := range []int{0, 1, maxVar - 9} {
		for bits := range 1 << 10 {
			set := setFrom(bits, low)
			list := rangesOfSet(set)
			checkRanges(t, list, true, len(set))
			for n := max(low-2, 0); n <= min(low+11, maxVar); n++ {
				checkHas(t, list, n, set[n])
				more, rest := map[int]bool{n: true}, map[int]bool{}
				for v := range set {
					more[v] = true
					if v >= n {
						rest[v] = true
					}
				}
				checkAdd(t, list, n, rangesOfSet(more), impl.OK)
				checkFrom(t, list, n, rangesOfSet(rest), impl.OK)
			}
		}
	}
}

// wideRanges are count ranges of three numbers with five between them: room for one that touches none.
func wideRanges(count, from int) []impl.Range {
	var list []impl.Range
	for i := range count {
		list = append(list, impl.Range{Lo: from + 8*i, Hi: from + 8*i + 2})
	}
	return list
}

// placed has n as a range of its own ahead of the range at place i.
func placed(list []impl.Range, i, n int) []impl.Range {
	return slices.Insert(slices.Clone(list), i, impl.Range{Lo: n, Hi: n})
}

func TestP6AddToAFullList(t *testing.T) {
	full := wideRanges(64, 8)
	for i := range 65 {
		// Of the five between two ranges these touch neither.
		for _, n := range []int{8*i + 4, 8*i + 5, 8*i + 6} {
			checkAdd(t, full, n, placed(full, i, n)[1:], impl.OK)
			checkAdd(t, full[:63], n, placed(full[:63], min(i, 63), n), impl.OK)
		}
	}
	for _, n := range []int{0, 1, 6} {
		checkAdd(t, full, n, full, impl.OK)
	}
	checkAdd(t, full, maxVar, placed(full, 64, maxVar)[1:], impl.OK)
	for i, r := range full {
		for _, n := range []int{r.Lo, r.Lo + 1, r.Hi} {
			checkAdd(t, full, n, full, impl.OK)
		}
		low, high := slices.Clone(full), slices.Clone(full)
		low[i].Lo--
		high[i].Hi++
		checkAdd(t, full, r.Lo-1, low, impl.OK)
		checkAdd(t, full, r.Hi+1, high, impl.OK)
	}
}

func TestP6JoinInAFullList(t *testing.T) {
	full := spacedRanges(64, 5)
	for i := range 63 {
		want := slices.Delete(slices.Clone(full), i, i+1)
		want[i].Lo = full[i].Lo
		checkAdd(t, full, full[i].Hi+1, want, impl.OK)
	}
	checkAdd(t, full, 4, slices.Concat(pairs(4, 5), full[1:]), impl.OK)
	checkAdd(t, full, 3, full, impl.OK)
	checkAdd(t, full, 132, slices.Concat(full[:63], pairs(131, 132)), impl.OK)
	checkAdd(t, full, 133, slices.Concat(full[1:], pairs(133, 133)), impl.OK)
	top := spacedRanges(64, maxVar-127)
	checkAdd(t, top, maxVar, slices.Concat(top[:63], pairs(maxVar-1, maxVar)), impl.OK)
	checkAdd(t, spacedRanges(64, maxVar-128), maxVar, slices.Concat(spacedRanges(63, maxVar-126), pairs(maxVar, maxVar)), impl.OK)
	checkAdd(t, spacedRanges(64, 2), 0, spacedRanges(64, 2), impl.OK)
	checkAdd(t, spacedRanges(64, 1), 0, slices.Concat(pairs(0, 1), spacedRanges(63, 3)), impl.OK)
	checkAdd(t, spacedRanges(64, 0), 0, spacedRanges(64, 0), impl.OK)
}

// The lowest range goes whole, however many numbers it has.
func TestP6TheLowestRangeGoesWhole(t *testing.T) {
	list := slices.Concat(pairs(0, 1<<40), spacedRanges(63, 1<<41))
	checkAdd(t, list, maxVar, slices.Concat(list[1:], pairs(maxVar, maxVar)), impl.OK)
	checkAdd(t, list, 1<<40+5, slices.Concat(pairs(1<<40+5, 1<<40+5), list[1:]), impl.OK)
	got, _ := impl.RangesAdd(list, maxVar)
	checkRanges(t, got, true, 64)
	checkHas(t, got, 0, false)
	checkHas(t, got, 1<<40, false)
	checkHas(t, got, maxVar, true)
}

func TestP6FromAFullList(t *testing.T) {
	full := wideRanges(64, 8)
	for i, r := range full {
		checkFrom(t, full, r.Lo-1, full[i:], impl.OK)
		checkFrom(t, full, r.Lo, full[i:], impl.OK)
		checkFrom(t, full, r.Lo+1, slices.Concat(pairs(r.Lo+1, r.Hi), full[i+1:]), impl.OK)
		checkFrom(t, full, r.Hi, slices.Concat(pairs(r.Hi, r.Hi), full[i+1:]), impl.OK)
		checkFrom(t, full, r.Hi+1, full[i+1:], impl.OK)
	}
	checkFrom(t, full, 0, full, impl.OK)
	checkFrom(t, full, maxVar, nil, impl.OK)
}

// wrongRanges are lists of which one thing is wrong each.
func wrongRanges() [][]impl.Range {
	lists := [][]impl.Range{spacedRanges(65, 0), spacedRanges(65, maxVar-128), spacedRanges(impl.MaxList, 0), spacedRanges(impl.MaxList+1, 0), spacedRanges(70000, 0)}
	good := wideRanges(5, 8)
	spoilt := func(i int, r impl.Range) {
		list := slices.Clone(good)
		list[i] = r
		lists = append(lists, list)
	}
	for i, r := range good {
		spoilt(i, impl.Range{Lo: r.Hi, Hi: r.Lo})
		spoilt(i, impl.Range{Lo: r.Lo, Hi: r.Lo - 1})
		spoilt(i, impl.Range{Lo: -1, Hi: r.Hi})
		spoilt(i, impl.Range{Lo: math.MinInt, Hi: r.Hi})
		spoilt(i, impl.Range{Lo: -2, Hi: -1})
		spoilt(i, impl.Range{Lo: r.Lo, Hi: maxVar + 1})
		spoilt(i, impl.Range{Lo: r.Lo, Hi: math.MaxInt})
		spoilt(i, impl.Range{Lo: maxVar + 1, Hi: maxVar + 1})
		spoilt(i, impl.Range{Lo: math.MinInt, Hi: math.MaxInt})
		spoilt(i, impl.Range{Lo: math.MaxInt, Hi: math.MinInt})
	}
	for i := 1; i < len(good); i++ {
		r, ahead := good[i], good[i-1]
		spoilt(i, impl.Range{Lo: ahead.Hi + 1, Hi: r.Hi})
		spoilt(i, impl.Range{Lo: ahead.Hi, Hi: r.Hi})
		spoilt(i, impl.Range{Lo: ahead.Lo, Hi: r.Hi})
		spoilt(i, impl.Range{Lo: ahead.Lo - 4, Hi: r.Hi})
		spoilt(i, ahead)
		spoilt(i, impl.Range{Lo: ahead.Lo - 4, Hi: ahead.Lo - 3})
		spoilt(i-1, impl.Range{Lo: ahead.Lo, Hi: r.Lo - 1})
		spoilt(i-1, impl.Range{Lo: ahead.Lo, Hi: r.Lo})
		spoilt(i-1, impl.Range{Lo: ahead.Lo, Hi: maxVar})
	}
	return append(lists, pairs(5, 6, 1, 2), pairs(1, 2, 3, 4), pairs(0, maxVar, maxVar+1, maxVar+1), pairs(0, maxVar, 0, 0), pairs(0, 0, 0, 0), pairs(-1, -1), pairs(1, 0))
}

func TestWrongRanges(t *testing.T) {
	for _, list := range wrongRanges() {
		if rangesOKAsked(list) {
			t.Fatalf("%s is a valid list", toldRanges(list))
		}
		checkRanges(t, list, false, 0)
		for _, n := range []int{0, 1, 9, 10, 11, 17, 1000, maxVar, -1, maxVar + 1, math.MinInt, math.MaxInt} {
			checkAdd(t, list, n, nil, impl.ErrBad)
			checkFrom(t, list, n, nil, impl.ErrBad)
			checkHas(t, list, n, false)
		}
	}
}

// Just what is a valid list is taken as one.
func TestRangesThatAreJustValid(t *testing.T) {
	for _, list := range [][]impl.Range{
		nil, {}, pairs(0, 0), pairs(0, maxVar), pairs(maxVar, maxVar), pairs(3, 3, 5, 5), pairs(0, 0, 2, maxVar), pairs(0, maxVar-2, maxVar, maxVar),
		spacedRanges(1, 0), spacedRanges(63, 0), spacedRanges(64, 0), spacedRanges(64, maxVar-126), wideRanges(64, 8),
	} {
		checkRanges(t, list, true, countAsked(list))
		for _, n := range []int{-1, maxVar + 1, math.MinInt, math.MaxInt, -maxVar} {
			checkAdd(t, list, n, nil, impl.ErrBad)
			checkFrom(t, list, n, nil, impl.ErrBad)
			checkHas(t, list, n, false)
		}
	}
}

// Every list of at most three ranges, right and wrong, with ends about either end of the numbers.
func TestEveryShortList(t *testing.T) {
	for _, low := range []int{-1, maxVar - 5} {
		var all []impl.Range
		for lo := low; lo < low+7; lo++ {
			for hi := low; hi < low+7; hi++ {
				all = append(all, impl.Range{Lo: lo, Hi: hi})
			}
		}
		for _, a := range all {
			checkListAsked(t, []impl.Range{a})
			for _, b := range all {
				checkListAsked(t, []impl.Range{a, b})
				checkNumberAsked(t, []impl.Range{a, b}, a.Hi+1)
				for _, c := range all {
					checkListAsked(t, []impl.Range{a, b, c})
				}
			}
		}
	}
}

func TestRangesDrawn(t *testing.T) {
	more := numbers(61)
	odd := oddInts()
	for range 3000 {
		list := drawnRanges(&more, 1+more.below(1<<more.below(7)))
		if more.below(4) == 0 {
			list = drawnRanges(&more, 62+more.below(4))
		}
		if more.below(4) == 0 {
			r := &list[more.below(len(list))]
			*[]*int{&r.Lo, &r.Hi}[more.below(2)] += more.below(9) - 4
		}
		checkListAsked(t, list)
		near := list[more.below(len(list))]
		for step := -3; step <= 3; step++ {
			checkNumberAsked(t, list, near.Lo+step)
			checkNumberAsked(t, list, near.Hi+step)
		}
		checkNumberAsked(t, list, more.variable())
		checkNumberAsked(t, list, odd[more.below(len(odd))])
	}
}

// amid is a list with something of its owner's ahead of it and behind it.
func amid[T comparable](list []T, mark T) fenced[T] {
	f := fence(append([]T{mark, mark}, list...), mark)
	f.list = f.list[2:]
	return f
}

// checkFreshRanges asks twice, and spoils the first answer and the room behind it.
func checkFreshRanges(t *testing.T, call string, arg fenced[impl.Range], ask func() []impl.Range) {
	t.Helper()
	first := ask()
	want := slices.Clone(first)
	arg.check(t, call)
	spoilRanges(first)
	arg.check(t, call)
	if again := ask(); !slices.Equal(again, want) {
		t.Errorf("%s: a later answer is %v, want %v", call, again, want)
	}
}

func TestP1RangesMemory(t *testing.T) {
	lists := append(wrongRanges(), nil, pairs(0, 0), pairs(10, 12, 16, 20), pairs(0, maxVar), spacedRanges(63, 5), spacedRanges(64, 5), wideRanges(64, 8))
	for _, list := range lists {
		arg := amid(list, impl.Range{Lo: 3, Hi: 4})
		for _, n := range []int{0, 1, 3, 4, 5, 8, 9, 11, 12, 13, 14, 15, 20, 22, 60, 140, 600, maxVar, -1} {
			checkFreshRanges(t, "RangesAdd", arg, func() []impl.Range {
				got, _ := impl.RangesAdd(arg.list, n)
				return got
			})
			checkFreshRanges(t, "RangesFrom", arg, func() []impl.Range {
				got, _ := impl.RangesFrom(arg.list, n)
				return got
			})
			impl.RangesHas(arg.list, n)
		}
		impl.RangesOK(arg.list)
		impl.RangesCount(arg.list)
		arg.check(t, "RangesOK, RangesHas or RangesCount")
	}
}

// What stands behind the end of a list is not of it.
func TestP1NoRangeBehindTheEndIsRead(t *testing.T) {
	whole := pairs(1, 2, 5, 6, 3, 4, 9, 9)
	checkRanges(t, whole[:2], true, 4)
	checkRanges(t, whole[:0], true, 0)
	checkHas(t, whole[:1], 5, false)
	checkAdd(t, whole[:1], 4, pairs(1, 2, 4, 4), impl.OK)
	checkAdd(t, whole[:2], 8, pairs(1, 2, 5, 6, 8, 8), impl.OK)
	checkFrom(t, whole[:1], 0, pairs(1, 2), impl.OK)
	checkFrom(t, whole[:1], 3, nil, impl.OK)
}

func TestP1RangesTakeAnyIntegers(t *testing.T) {
	odd := append(oddInts(), -maxVar, 10, 11, 127, 128)
	for _, v := range odd {
		mustEnd(t, fmt.Sprintf("ranges with %d", v), func() {
			for _, list := range [][]impl.Range{nil, pairs(10, 12), pairs(0, maxVar), spacedRanges(64, 1), spacedRanges(64, maxVar-127), spacedRanges(65, 0)} {
				checkNumberAsked(t, list, v)
			}
			for _, w := range odd {
				checkListAsked(t, pairs(v, w))
				checkListAsked(t, pairs(v, v, w, w))
				checkNumberAsked(t, pairs(v, v, w, w), v)
				checkNumberAsked(t, pairs(v, w), w)
			}
		})
	}
}
