package tests

import (
	"bytes"
	"fmt"
	"math"
	"slices"
	"testing"

	"loop.example/g00012/impl"
)

func TestPathLayerLimits(t *testing.T) {
	for i, pair := range [][2]int{
		{impl.MaxIds, 16}, {impl.MaxIdOps, 300}, {impl.MaxPathOps, 300}, {impl.Amplify, 3}, {impl.MaxAddr, 24}, {impl.TokenLife, 60000000},
		{impl.INew, 1}, {impl.INext, 2}, {impl.PCame, 1}, {impl.PSend, 2}, {impl.PChallenge, 3}, {impl.PAnswer, 4},
	} {
		if pair[0] != pair[1] {
			t.Errorf("constant %d is %d, want %d", i, pair[0], pair[1])
		}
	}
}

// askedId is an id that came, with what has become of it.
type askedId struct {
	seq        int
	cid, token string
	kept       bool
}

// askedIds goes by the chapter, word by word: it holds all that came, and looks it through each time.
type askedIds struct {
	limit, used, asked int
	all                []askedId
	over               bool
	// How often a thing was met that a run meets seldom.
	again, late, swept int
}

func newAskedIds(limit int) *askedIds { return &askedIds{limit: limit, all: []askedId{{kept: true}}} }

func (a *askedIds) kept() []int {
	var nums []int
	for _, id := range a.all {
		if id.kept {
			nums = append(nums, id.seq)
		}
	}
	slices.Sort(nums)
	return nums
}

func (a *askedIds) drop(num int) {
	for i := range a.all {
		if a.all[i].seq == num {
			a.all[i].kept = false
		}
	}
}

func (a *askedIds) cid() string {
	for _, id := range a.all {
		if id.seq == a.used {
			return id.cid
		}
	}
	return ""
}

func newIdOK(op impl.IdOp) bool {
	return inRange(op.Seq, 0, maxVar) && inRange(op.Retire, 0, op.Seq) && inRange(len(op.Cid), 1, 8) && len(op.Token) == 8
}

func (a *askedIds) fresh(op impl.IdOp) ([]int, int) {
	if !newIdOK(op) {
		return nil, impl.ErrBad
	}
	cid, token := string(op.Cid), string(op.Token)
	for _, id := range a.all {
		if id.seq == op.Seq && (id.cid != cid || id.token != token) {
			return nil, impl.ErrIds
		}
		if id.seq == op.Seq {
			a.again++
			return nil, impl.OK
		}
	}
	for _, id := range a.all {
		if id.cid == cid {
			return nil, impl.ErrIds
		}
	}
	if op.Seq < a.asked {
		a.late++
		a.all = append(a.all, askedId{op.Seq, cid, token, false})
		return []int{op.Seq}, impl.OK
	}
	a.all = append(a.all, askedId{op.Seq, cid, token, true})
	var retired []int
	if op.Retire > a.asked {
		a.asked = op.Retire
		for _, num := range a.kept() {
			if num < op.Retire {
				retired = append(retired, num)
				a.drop(num)
			}
		}
		if slices.Contains(retired, a.used) {
			a.used = a.kept()[0]
		}
		a.swept += way(len(retired) > 1)
	}
	if len(a.kept()) > a.limit {
		return nil, impl.ErrIds
	}
	return retired, impl.OK
}

func (a *askedIds) next() ([]int, int) {
	if len(a.kept()) < 2 {
		return nil, impl.ErrLimit
	}
	gone := a.used
	a.drop(gone)
	a.used = a.kept()[0]
	return []int{gone}, impl.OK
}

func (a *askedIds) run(op impl.IdOp) impl.IdObs {
	if a.over {
		return impl.IdObs{Code: impl.ErrState}
	}
	var retired []int
	code := impl.ErrBad
	switch op.Kind {
	case 1:
		retired, code = a.fresh(op)
	case 2:
		retired, code = a.next()
	}
	if code == impl.ErrIds {
		a.over = true
		return impl.IdObs{Code: code}
	}
	return impl.IdObs{Code: code, Used: a.used, Count: len(a.kept()), Cid: []byte(a.cid()), Frames: retireds(retired...)}
}

func retireds(nums ...int) []impl.Frame {
	var list []impl.Frame
	for _, num := range nums {
		list = append(list, impl.Frame{Kind: 25, A: num})
	}
	return list
}

// cidOf and tokenOf are what the numbers have in these tests, each its own.
func cidOf(num int) []byte {
	switch {
	case num == 0:
		return nil
	case inRange(num, 1, 255):
		return []byte{'c', byte(num)}
	}
	return fixedBytes(num)
}

func tokenOf(num int) []byte { return fixedBytes(3*num + 1) }

func fixedBytes(v int) []byte { return join(fourBytes(uint64(v)>>32), fourBytes(uint64(v))) }

func issues(num, retire int) impl.IdOp {
	return impl.IdOp{Kind: 1, Seq: num, Retire: retire, Cid: cidOf(num), Token: tokenOf(num)}
}

func issuesAs(num, retire int, cid, token string) impl.IdOp {
	return impl.IdOp{Kind: 1, Seq: num, Retire: retire, Cid: []byte(cid), Token: []byte(token)}
}

func nextId() impl.IdOp { return impl.IdOp{Kind: 2} }

// idWant is what is to be answered, put together bit by bit.
type idWant impl.IdObs

func uses(num, count int) idWant { return idWant{Used: num, Count: count, Cid: cidOf(num)} }

// idsOver is told by what ends a run, and behind it.
func idsOver(code int) idWant { return idWant{Code: code} }

func (w idWant) retires(nums ...int) idWant { w.Frames = retireds(nums...); return w }

func (w idWant) named(cid string) idWant { w.Cid = []byte(cid); return w }

func (w idWant) code(code int) idWant { w.Code = code; return w }

func (w idWant) bad() idWant { return w.code(impl.ErrBad) }

func (w idWant) none() idWant { return w.code(impl.ErrLimit) }

// idStep is an operation and what is to be answered to it.
type idStep struct {
	op   impl.IdOp
	want idWant
}

func sameIdObs(a, b impl.IdObs) bool {
	return a.Code == b.Code && a.Used == b.Used && a.Count == b.Count && bytes.Equal(a.Cid, b.Cid) && slices.EqualFunc(a.Frames, b.Frames, sameFrame)
}

func idsRun(limit int) askedRun[impl.IdOp, impl.IdObs] {
	return askedRun[impl.IdOp, impl.IdObs]{
		name:  fmt.Sprintf("IdsRun(%d)", limit),
		does:  func(ops []impl.IdOp) ([]impl.IdObs, int) { return impl.IdsRun(limit, ops) },
		asked: func() func(impl.IdOp) impl.IdObs { return newAskedIds(limit).run },
		same:  sameIdObs,
	}
}

func checkIdSteps(t *testing.T, limit int, steps []idStep) {
	t.Helper()
	var ops []impl.IdOp
	var want []impl.IdObs
	for _, s := range steps {
		ops, want = append(ops, s.op), append(want, impl.IdObs(s.want))
	}
	idsRun(limit).checkEach(t, ops, want)
}

func TestP13TheFirstId(t *testing.T) {
	for limit := 2; limit <= 16; limit++ {
		checkIdSteps(t, limit, []idStep{{nextId(), uses(0, 1).none()}, {nextId(), uses(0, 1).none()}, {issues(1, 0), uses(0, 2)}, {nextId(), uses(1, 1).retires(0)}, {nextId(), uses(1, 1).none()}})
		checkIdSteps(t, limit, []idStep{{issues(1, 1), uses(1, 1).retires(0)}, {nextId(), uses(1, 1).none()}, {issues(2, 0), uses(1, 2)}, {nextId(), uses(2, 1).retires(1)}})
	}
}

// The least that is kept comes into use, in whatever order they came.
func TestP13TheLeastIsNext(t *testing.T) {
	checkIdSteps(t, 5, []idStep{
		{issues(9, 0), uses(0, 2)}, {issues(4, 0), uses(0, 3)}, {issues(7, 0), uses(0, 4)}, {nextId(), uses(4, 3).retires(0)}, {issues(2, 0), uses(4, 4)}, {issues(5, 0), uses(4, 5)}, {nextId(), uses(2, 4).retires(4)},
		{nextId(), uses(5, 3).retires(2)}, {issues(3, 0), uses(5, 4)}, {nextId(), uses(3, 3).retires(5)}, {nextId(), uses(7, 2).retires(3)}, {nextId(), uses(9, 1).retires(7)}, {nextId(), uses(9, 1).none()},
		{issues(1, 0), uses(9, 2)}, {nextId(), uses(1, 1).retires(9)}, {nextId(), uses(1, 1).none()}, {issues(maxVar, 0), uses(1, 2)}, {nextId(), uses(maxVar, 1).retires(1)},
	})
}

func TestP13ManyIds(t *testing.T) {
	steps := []idStep{}
	for num := 1; num <= 15; num++ {
		steps = append(steps, idStep{issues(num, 0), uses(0, num+1)})
	}
	for num := range 15 {
		steps = append(steps, idStep{nextId(), uses(num+1, 15-num).retires(num)})
	}
	checkIdSteps(t, 16, append(steps, idStep{nextId(), uses(15, 1).none()}))
	steps = steps[:15]
	checkIdSteps(t, 16, append(slices.Clone(steps), idStep{issues(16, 16), uses(16, 1).retires(rising(16, 0, 1)...)}, idStep{issues(17, 17), uses(17, 1).retires(16)}))
	checkIdSteps(t, 16, append(slices.Clone(steps), idStep{issues(16, 15), uses(15, 2).retires(rising(15, 0, 1)...)}))
	checkIdSteps(t, 16, append(slices.Clone(steps), idStep{issues(16, 0), idsOver(impl.ErrIds)}))
	checkIdSteps(t, 16, append(slices.Clone(steps), idStep{issues(16, 1), uses(1, 16).retires(0)}, idStep{issues(17, 1), idsOver(impl.ErrIds)}))
}

// A number that came ahead changes nothing, if it has the same Cid and Token: not by its Retire either.
func TestP13TheSameAgain(t *testing.T) {
	checkIdSteps(t, 4, []idStep{
		{issues(2, 0), uses(0, 2)}, {issues(2, 0), uses(0, 2)}, {issues(2, 1), uses(0, 2)}, {issues(2, 2), uses(0, 2)}, {issues(1, 0), uses(0, 3)}, {issues(2, 2), uses(0, 3)}, {issues(1, 1), uses(0, 3)},
		// In use.
		{nextId(), uses(1, 2).retires(0)}, {issues(1, 0), uses(1, 2)}, {issues(1, 1), uses(1, 2)}, {issues(2, 2), uses(1, 2)},
		// Gone by INext, by Retire, and never kept.
		{nextId(), uses(2, 1).retires(1)}, {issues(1, 0), uses(2, 1)}, {issues(1, 1), uses(2, 1)}, {issues(7, 5), uses(7, 1).retires(2)}, {issues(2, 0), uses(7, 1)}, {issues(2, 2), uses(7, 1)}, {issues(1, 1), uses(7, 1)},
		{issues(4, 0), uses(7, 1).retires(4)}, {issues(4, 0), uses(7, 1)}, {issues(4, 4), uses(7, 1)}, {issues(3, 3), uses(7, 1).retires(3)}, {issues(3, 3), uses(7, 1)}, {issues(3, 0), uses(7, 1)}, {issues(7, 7), uses(7, 1)},
		{issues(6, 0), uses(7, 2)}, {issues(6, 6), uses(7, 2)}, {issues(5, 0), uses(7, 3)}, {issues(8, 6), uses(7, 3).retires(5)}, {issues(5, 0), uses(7, 3)}, {issues(5, 5), uses(7, 3)},
	})
}

// knownIds is a run behind which numbers are known in each way: 0 and 1 went by INext, 2 by a Retire, 3 was never kept, 6 is kept and 5 in use.
func knownIds() []idStep {
	return []idStep{
		{issues(1, 0), uses(0, 2)}, {nextId(), uses(1, 1).retires(0)}, {issues(2, 0), uses(1, 2)}, {nextId(), uses(2, 1).retires(1)}, {issues(5, 5), uses(5, 1).retires(2)}, {issues(3, 2), uses(5, 1).retires(3)}, {issues(6, 5), uses(5, 2)},
	}
}

func idOpsOf(steps []idStep) []impl.IdOp {
	var ops []impl.IdOp
	for _, s := range steps {
		ops = append(ops, s.op)
	}
	return ops
}

// checkBehindKnown puts steps behind knownIds.
func checkBehindKnown(t *testing.T, steps ...idStep) {
	t.Helper()
	checkIdSteps(t, 4, append(knownIds(), steps...))
}

func TestP13AKnownNumberWithAnother(t *testing.T) {
	ended := idStep{nextId(), idsOver(impl.ErrState)}
	for _, num := range []int{1, 2, 3, 5, 6} {
		cid, token := string(cidOf(num)), string(tokenOf(num))
		checkBehindKnown(t, idStep{issuesAs(num, 0, cid, token), uses(5, 2)})
		for _, other := range []string{"x", cid[:1], cid + "\x00", "\x00" + cid, cid + cid, "c\x09", string(cidOf(5)) + "\x00", "12345678"} {
			checkBehindKnown(t, idStep{issuesAs(num, 0, other, token), idsOver(impl.ErrIds)}, ended)
			checkBehindKnown(t, idStep{issuesAs(num, num, other, token), idsOver(impl.ErrIds)}, ended)
		}
		for at := range 8 {
			other := []byte(token)
			other[at] ^= 1
			checkBehindKnown(t, idStep{issuesAs(num, 0, cid, string(other)), idsOver(impl.ErrIds)}, ended)
			checkBehindKnown(t, idStep{issuesAs(num, 0, "x", string(other)), idsOver(impl.ErrIds)}, ended)
		}
		for _, another := range []int{1, 2, 3, 5, 6} {
			if another != num {
				checkBehindKnown(t, idStep{issuesAs(num, 0, string(cidOf(another)), token), idsOver(impl.ErrIds)}, ended)
				checkBehindKnown(t, idStep{issuesAs(num, 0, string(cidOf(another)), string(tokenOf(another))), idsOver(impl.ErrIds)}, ended)
			}
		}
	}
}

func TestP13NumberZeroAgain(t *testing.T) {
	for _, cid := range []string{"\x00", "x", "c\x01", "\x00\x00\x00\x00\x00\x00\x00\x00", "12345678"} {
		for _, token := range []string{"\x00\x00\x00\x00\x00\x00\x00\x00", "12345678", string(tokenOf(1))} {
			again := idStep{issuesAs(0, 0, cid, token), idsOver(impl.ErrIds)}
			ended := idStep{issues(9, 0), idsOver(impl.ErrState)}
			checkIdSteps(t, 2, []idStep{again, ended})
			checkIdSteps(t, 2, []idStep{{issues(1, 0), uses(0, 2)}, again, ended})
			checkIdSteps(t, 2, []idStep{{issues(1, 1), uses(1, 1).retires(0)}, again, ended})
			checkIdSteps(t, 2, []idStep{{issues(1, 0), uses(0, 2)}, {nextId(), uses(1, 1).retires(0)}, again, ended})
			checkBehindKnown(t, again, ended)
		}
	}
	// With the Cid that it has it is no valid frame.
	for _, token := range []string{"\x00\x00\x00\x00\x00\x00\x00\x00", ""} {
		checkIdSteps(t, 2, []idStep{{issuesAs(0, 0, "", token), uses(0, 1).bad()}, {issues(1, 0), uses(0, 2)}})
	}
}

func TestP13ACidOfAnotherNumber(t *testing.T) {
	ended := idStep{nextId(), idsOver(impl.ErrState)}
	for _, taken := range []int{1, 2, 3, 5, 6} {
		for _, num := range []int{4, 7, 8, maxVar} {
			for _, token := range []int{taken, num} {
				checkBehindKnown(t, idStep{issuesAs(num, 0, string(cidOf(taken)), string(tokenOf(token))), idsOver(impl.ErrIds)}, ended)
				checkBehindKnown(t, idStep{issuesAs(num, num, string(cidOf(taken)), string(tokenOf(token))), idsOver(impl.ErrIds)}, ended)
			}
		}
	}
}

// Cids that are nearly the same are others; a Token may be that of another number.
func TestP13CidsThatAreAlike(t *testing.T) {
	var steps []idStep
	alike := []string{"\x00", "\x00\x00", "\x00\x00\x00", "\x00\x00\x00\x00\x00\x00\x00", "\x00\x00\x00\x00\x00\x00\x00\x00", "a", "a\x00", "\x00a", "a\x00\x00\x00\x00\x00\x00\x00", "\x00\x00\x00\x00\x00\x00\x00a", "aaaaaaaa", "aaaaaaa"}
	for i, cid := range alike {
		steps = append(steps, idStep{issuesAs(i+1, 0, cid, "12345678"), uses(0, i+2)})
	}
	for i, cid := range alike {
		steps = append(steps, idStep{nextId(), uses(i+1, len(alike)-i).named(cid).retires(i)})
	}
	checkIdSteps(t, 16, steps)
	for i, cid := range alike {
		checkIdSteps(t, 16, append(slices.Clone(steps), idStep{issuesAs(20, 0, cid, "12345678"), idsOver(impl.ErrIds)}))
		checkIdSteps(t, 16, append(slices.Clone(steps), idStep{issuesAs(i+1, 0, cid, "12345678"), uses(12, 1).named("aaaaaaa")}))
	}
}

// What is asked to be retired is 5; below it a number is not kept, at it and above it is.
func TestP13BelowWhatIsAsked(t *testing.T) {
	asked := []idStep{{issues(8, 5), uses(8, 1).retires(0)}}
	for num := 1; num <= 4; num++ {
		for retire := range num + 1 {
			checkIdSteps(t, 4, append(slices.Clone(asked), idStep{issues(num, retire), uses(8, 1).retires(num)}, idStep{nextId(), uses(8, 1).none()}, idStep{issues(num, retire), uses(8, 1)}))
		}
	}
	for num := 5; num <= 7; num++ {
		for retire := range 6 {
			checkIdSteps(t, 4, append(slices.Clone(asked), idStep{issues(num, retire), uses(8, 2)}, idStep{nextId(), uses(num, 1).retires(8)}))
		}
	}
	checkIdSteps(t, 4, append(slices.Clone(asked), idStep{issues(6, 6), uses(8, 2)}, idStep{issues(5, 0), uses(8, 2).retires(5)}, idStep{issues(7, 7), uses(8, 2).retires(6)}))
	checkIdSteps(t, 4, append(slices.Clone(asked), idStep{issues(4, 4), uses(8, 1).retires(4)}, idStep{issues(5, 4), uses(8, 2)}, idStep{issues(6, 5), uses(8, 3)}, idStep{issues(9, 6), uses(8, 3).retires(5)}))
	// It does not count how many are kept, however many come.
	late := slices.Clone(asked)
	for num := 1; num <= 4; num++ {
		late = append(late, idStep{issues(num, 0), uses(8, 1).retires(num)})
	}
	checkIdSteps(t, 2, append(late, idStep{issues(5, 0), uses(8, 2)}, idStep{issues(6, 0), idsOver(impl.ErrIds)}))
}

// Retire below, at and above what was asked so far, which is 2.
func TestP13WhatIsAskedToBeRetired(t *testing.T) {
	asked := []idStep{{issues(2, 2), uses(2, 1).retires(0)}, {issues(3, 0), uses(2, 2)}, {issues(4, 1), uses(2, 3)}, {issues(5, 2), uses(2, 4)}}
	for _, c := range []struct {
		retire int
		want   idWant
	}{
		{0, uses(2, 5)}, {1, uses(2, 5)}, {2, uses(2, 5)}, {3, uses(3, 4).retires(2)}, {4, uses(4, 3).retires(2, 3)}, {5, uses(5, 2).retires(2, 3, 4)}, {6, uses(9, 1).retires(2, 3, 4, 5)}, {7, uses(9, 1).retires(2, 3, 4, 5)}, {9, uses(9, 1).retires(2, 3, 4, 5)},
	} {
		checkIdSteps(t, 8, append(slices.Clone(asked), idStep{issues(9, c.retire), c.want}))
		bound := max(2, c.retire)
		if bound <= 7 {
			checkIdSteps(t, 8, append(slices.Clone(asked), idStep{issues(9, c.retire), c.want}, idStep{issues(7, 0), uses(c.want.Used, c.want.Count+1)}))
		}
		if bound == 7 {
			checkIdSteps(t, 8, append(slices.Clone(asked), idStep{issues(9, c.retire), c.want}, idStep{issues(6, 0), uses(9, 1).retires(6)}))
		}
	}
	// One that is above those that are kept, but asks for less than was asked, lets nothing come back.
	checkIdSteps(t, 4, []idStep{{issues(9, 9), uses(9, 1).retires(0)}, {issues(10, 3), uses(9, 2)}, {issues(8, 0), uses(9, 2).retires(8)}, {issues(11, 10), uses(10, 2).retires(9)}, {issues(7, 7), uses(10, 2).retires(7)}})
	checkIdSteps(t, 4, []idStep{{issues(maxVar, maxVar), uses(maxVar, 1).retires(0)}, {issues(maxVar-1, maxVar-1), uses(maxVar, 1).retires(maxVar - 1)}, {issues(1, 0), uses(maxVar, 1).retires(1)}, {nextId(), uses(maxVar, 1).none()}})
}

// The one in use goes by a Retire, or stays.
func TestP13TheOneInUse(t *testing.T) {
	kept := []idStep{{issues(3, 0), uses(0, 2)}, {issues(6, 0), uses(0, 3)}, {nextId(), uses(3, 2).retires(0)}, {issues(1, 0), uses(3, 3)}, {issues(2, 0), uses(3, 4)}}
	checkIdSteps(t, 6, append(slices.Clone(kept), idStep{issues(8, 1), uses(3, 5)}, idStep{issues(7, 0), uses(3, 6)}))
	checkIdSteps(t, 6, append(slices.Clone(kept), idStep{issues(8, 2), uses(3, 4).retires(1)}, idStep{nextId(), uses(2, 3).retires(3)}))
	checkIdSteps(t, 6, append(slices.Clone(kept), idStep{issues(8, 3), uses(3, 3).retires(1, 2)}, idStep{nextId(), uses(6, 2).retires(3)}))
	checkIdSteps(t, 6, append(slices.Clone(kept), idStep{issues(8, 4), uses(6, 2).retires(1, 2, 3)}, idStep{nextId(), uses(8, 1).retires(6)}))
	checkIdSteps(t, 6, append(slices.Clone(kept), idStep{issues(5, 4), uses(5, 2).retires(1, 2, 3)}, idStep{nextId(), uses(6, 1).retires(5)}))
	checkIdSteps(t, 6, append(slices.Clone(kept), idStep{issues(4, 4), uses(4, 2).retires(1, 2, 3)}))
	checkIdSteps(t, 6, append(slices.Clone(kept), idStep{issues(8, 7), uses(8, 1).retires(1, 2, 3, 6)}, idStep{nextId(), uses(8, 1).none()}))
	// INext has let one below the one in use come into use: the one that was skipped goes alone.
	checkIdSteps(t, 6, append(slices.Clone(kept), idStep{nextId(), uses(1, 3).retires(3)}, idStep{issues(9, 2), uses(2, 3).retires(1)}, idStep{issues(3, 3), uses(2, 3)}, idStep{issues(10, 7), uses(9, 2).retires(2, 6)}))
}

func TestP13AtMostSoMany(t *testing.T) {
	for limit := 2; limit <= 16; limit++ {
		var steps []idStep
		for num := 1; num < limit; num++ {
			steps = append(steps, idStep{issues(num, 0), uses(0, num+1)})
		}
		full := func(more ...idStep) { t.Helper(); checkIdSteps(t, limit, append(slices.Clone(steps), more...)) }
		ended := idStep{issues(90, 90), idsOver(impl.ErrState)}
		full(idStep{issues(limit, 0), idsOver(impl.ErrIds)}, ended)
		full(idStep{issues(90, 0), idsOver(impl.ErrIds)}, ended)
		full(idStep{issues(limit, 1), uses(1, limit).retires(0)}, idStep{issues(limit+1, 1), idsOver(impl.ErrIds)}, ended)
		full(idStep{issues(limit, limit), uses(limit, 1).retires(rising(limit, 0, 1)...)}, idStep{issues(limit+1, 0), uses(limit, 2)})
		full(idStep{nextId(), uses(1, limit-1).retires(0)}, idStep{issues(limit, 0), uses(1, limit)}, idStep{issues(limit+1, 0), idsOver(impl.ErrIds)}, ended)
		// What is known, or was asked to be retired, isn't kept, and so isn't one too many.
		full(idStep{issues(1, 0), uses(0, limit)}, idStep{issues(limit-1, 0), uses(0, limit)}, idStep{issues(50, 49), uses(50, 1).retires(rising(limit, 0, 1)...)}, idStep{issues(30, 0), uses(50, 1).retires(30)})
	}
}

// From an ErrIds on all is over, whatever comes.
func TestP13AllIsOver(t *testing.T) {
	behind := []impl.IdOp{nextId(), issues(9, 9), issues(5, 0), issues(1, 0), {}, {Kind: 3}, {Kind: -1}, {Kind: 1}, {Kind: 1, Seq: -1}, {Kind: 1, Seq: 1, Retire: 2, Cid: cidOf(1), Token: tokenOf(1)}, issues(0, 0), issuesAs(0, 0, "x", "12345678"), {Kind: math.MinInt}, {Kind: math.MaxInt, Seq: math.MinInt}}
	for _, wrong := range []impl.IdOp{issuesAs(0, 0, "x", "12345678"), issuesAs(5, 0, "x", "12345678"), issuesAs(7, 7, string(cidOf(1)), "12345678")} {
		var steps []idStep
		for _, op := range append(behind, behind...) {
			steps = append(steps, idStep{op, idsOver(impl.ErrState)})
		}
		checkBehindKnown(t, append([]idStep{{wrong, idsOver(impl.ErrIds)}}, steps...)...)
	}
}

// checkIdRefused puts an operation behind a run that has met something: Used, Count and Cid are told as they stand, and nothing has changed.
func checkIdRefused(t *testing.T, op impl.IdOp, code int) {
	t.Helper()
	for _, behind := range [][]idStep{{{issues(7, 6), uses(6, 2).retires(5)}}, {{issues(4, 0), uses(5, 2).retires(4)}}, {{nextId(), uses(6, 1).retires(5)}}, {{issues(8, 0), uses(5, 3)}, {issues(9, 0), uses(5, 4)}, {issues(10, 0), idsOver(impl.ErrIds)}}} {
		checkBehindKnown(t, append([]idStep{{op, uses(5, 2).code(code)}, {op, uses(5, 2).code(code)}}, behind...)...)
	}
	checkIdSteps(t, 2, []idStep{{op, uses(0, 1).code(code)}, {issues(1, 0), uses(0, 2)}})
}

func TestIdsThatMakeNoFrame(t *testing.T) {
	right := issues(20, 3)
	for _, seq := range []int{-1, -20, 0, 1, 2, maxVar + 1, math.MinInt, math.MaxInt} {
		op := right
		op.Seq = seq
		checkIdRefused(t, op, impl.ErrBad)
	}
	for _, retire := range []int{-1, -3, 21, 22, maxVar, maxVar + 1, math.MinInt, math.MaxInt} {
		op := right
		op.Retire = retire
		checkIdRefused(t, op, impl.ErrBad)
	}
	for _, count := range []int{0, 9, 10, 16, 264, 70000} {
		op := right
		op.Cid = rowOf(count, 1, 256)
		checkIdRefused(t, op, impl.ErrBad)
	}
	for _, count := range []int{0, 1, 7, 9, 16, 264, 70000} {
		op := right
		op.Token = rowOf(count, 1, 256)
		checkIdRefused(t, op, impl.ErrBad)
	}
}

func TestP13IdsAtTheirEnds(t *testing.T) {
	for _, count := range []int{1, 2, 7, 8} {
		cid := string(rowOf(count, 1, 256))
		checkIdSteps(t, 2, []idStep{{issuesAs(1, 0, cid, "12345678"), uses(0, 2)}, {nextId(), uses(1, 1).named(cid).retires(0)}})
	}
	for _, num := range []int{1, 2, 63, 64, 1 << 32, 1<<62 - 2, maxVar} {
		checkIdSteps(t, 2, []idStep{{issues(num, 0), uses(0, 2)}, {nextId(), uses(num, 1).retires(0)}})
		checkIdSteps(t, 2, []idStep{{issues(num, num-1), map[bool]idWant{true: uses(0, 2), false: uses(num, 1).retires(0)}[num == 1]}})
		checkIdSteps(t, 2, []idStep{{issues(num, num), uses(num, 1).retires(0)}, {nextId(), uses(num, 1).none()}})
		checkIdSteps(t, 2, []idStep{{issues(num, num+1), uses(0, 1).bad()}, {nextId(), uses(0, 1).none()}})
	}
}

// Of two faults the one that the chapter names first is told.
func TestIdsOrderOfCodes(t *testing.T) {
	// A known number with another Cid, a Cid that is taken, number 0, one too many: each with what makes no frame.
	for _, op := range []impl.IdOp{
		issuesAs(5, 0, "x", "1234567"), issuesAs(5, 6, "x", "12345678"), issuesAs(5, 0, "123456789", string(tokenOf(5))), issuesAs(7, 8, string(cidOf(5)), "12345678"), issuesAs(7, -1, string(cidOf(5)), "12345678"), issuesAs(7, 0, string(cidOf(5)), "123456789"),
		issuesAs(0, 1, "x", "12345678"), issuesAs(0, -1, "x", "12345678"), issuesAs(0, 0, "", "12345678"), issuesAs(0, 0, "x", "1234567"),
	} {
		checkIdRefused(t, op, impl.ErrBad)
	}
	checkIdSteps(t, 2, []idStep{{issues(1, 0), uses(0, 2)}, {issues(2, 3), uses(0, 2).bad()}, {issuesAs(2, 0, "x", "1"), uses(0, 2).bad()}, {issues(2, 1), uses(1, 2).retires(0)}})
	// A number that is known and the same is no fault, though its Cid is that of a number, and though all limit are kept.
	checkIdSteps(t, 2, []idStep{{issues(1, 0), uses(0, 2)}, {issues(1, 0), uses(0, 2)}, {issues(1, 1), uses(0, 2)}})
	// The Cid of another number is one too, where the number is asked to be retired and where there would be too many.
	checkBehindKnown(t, idStep{issuesAs(4, 0, string(cidOf(6)), "12345678"), idsOver(impl.ErrIds)}, idStep{issues(4, 0), idsOver(impl.ErrState)})
	// INext with one kept, behind the end of the run.
	checkIdSteps(t, 2, []idStep{{issuesAs(0, 0, "x", "12345678"), idsOver(impl.ErrIds)}, {nextId(), idsOver(impl.ErrState)}})
}

func TestIdsRunOtherKinds(t *testing.T) {
	for _, other := range []int{0, -1, -2, 3, 4, 5, 24, 25, 255, 256, 257, 258, math.MinInt, math.MaxInt} {
		checkIdRefused(t, impl.IdOp{Kind: other}, impl.ErrBad)
		for _, op := range []impl.IdOp{issues(20, 6), issuesAs(0, 0, "x", "12345678"), issuesAs(5, 0, "x", "12345678")} {
			op.Kind = other
			checkIdRefused(t, op, impl.ErrBad)
		}
	}
}

// INext asks for no field.
func TestP13NextAsksForNothingElse(t *testing.T) {
	for _, v := range []int{-1, 0, 1, 5, 6, 7, maxVar, maxVar + 1, math.MinInt, math.MaxInt} {
		for _, list := range [][]byte{nil, {}, cidOf(5), cidOf(6), []byte("x"), rowOf(9, 1, 256), rowOf(8, 1, 256)} {
			op := impl.IdOp{Kind: 2, Seq: v, Retire: v, Cid: list, Token: list}
			checkBehindKnown(t, idStep{op, uses(6, 1).retires(5)}, idStep{op, uses(6, 1).none()}, idStep{issues(8, 7), uses(8, 1).retires(6)}, idStep{issuesAs(9, 0, "x", "12345678"), uses(8, 2)})
		}
	}
}

func TestIdsLimitsOfALimit(t *testing.T) {
	ops := []impl.IdOp{issues(1, 0), issues(2, 1), nextId()}
	for _, v := range append(oddInts(), -1, 0, 1, 2, 3, 15, 16, 17, 18) {
		if inRange(v, 2, 16) {
			idsRun(v).checkAsked(t, ops)
			idsRun(v).check(t, nil, nil)
			idsRun(v).check(t, []impl.IdOp{}, nil)
			continue
		}
		idsRun(v).refuses(t, ops, impl.ErrBad)
		idsRun(v).refuses(t, nil, impl.ErrBad)
		idsRun(v).refuses(t, make([]impl.IdOp, 300), impl.ErrBad)
		idsRun(v).refuses(t, make([]impl.IdOp, 301), impl.ErrLong)
	}
}

func TestIdsHowMany(t *testing.T) {
	run := func(n int) []impl.IdOp {
		list := make([]impl.IdOp, n)
		for i := range list {
			list[i] = []impl.IdOp{issues(i+1, max(0, i-2)), issues(i+1, 0), nextId(), issues(max(1, i-1), 0)}[i%4]
		}
		return list
	}
	for _, limit := range []int{2, 5, 16} {
		for _, n := range []int{0, 1, 2, 299, 300} {
			idsRun(limit).checkAsked(t, run(n))
		}
		for _, n := range []int{301, 302, 5000} {
			idsRun(limit).refuses(t, run(n), impl.ErrLong)
			idsRun(limit).refuses(t, make([]impl.IdOp, n), impl.ErrLong)
			idsRun(1).refuses(t, run(n), impl.ErrLong)
			idsRun(17).refuses(t, run(n), impl.ErrLong)
		}
	}
	if last := idsRun(16).want(run(300))[299]; last.Code != impl.OK || last.Used < 200 {
		t.Errorf("a long run ends with %+v", last)
	}
}
