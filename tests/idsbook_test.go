package tests

import (
	"bytes"
	"fmt"
	"math"
	"slices"
	"testing"

	"loop.example/g00012/impl"
)

// drawnCid is mostly that of the number, now and then of another one, or nearly so.
func drawnCid(more *numbers, a *askedIds, num int) []byte {
	switch more.below(30) {
	case 0:
		return []byte(a.all[more.below(len(a.all))].cid)
	case 1:
		return join(cidOf(num), []byte{0})
	case 2:
		return more.bytes(more.below(11))
	}
	return cidOf(num)
}

// drawnIdOp has things in the fields that its kind does not ask for, too.
func drawnIdOp(more *numbers, a *askedIds, span int) impl.IdOp {
	op := impl.IdOp{Kind: 1, Seq: more.below(span)}
	if kept := a.kept(); more.below(2) == 0 && len(kept) > 0 {
		op.Seq = kept[len(kept)-1] + 1 + more.below(3)
	}
	switch more.below(10) {
	case 0, 1, 2:
		op.Kind = 2
	case 3:
		op.Seq = max(0, a.asked-2+more.below(5))
	case 4:
		op.Seq = a.all[more.below(len(a.all))].seq
	}
	switch {
	case len(a.kept()) >= a.limit && more.below(12) != 0:
		op.Retire = min(op.Seq, a.kept()[0]+1+more.below(3))
	case more.below(3) == 0:
		op.Retire = max(0, min(op.Seq, a.asked-1+more.below(4)))
	case more.below(3) == 0:
		op.Retire = more.below(op.Seq + 1)
	}
	if op.Seq == 0 && more.below(20) != 0 {
		op.Seq = 1
	}
	op.Cid, op.Token = drawnCid(more, a, op.Seq), tokenOf(op.Seq)
	switch more.below(150) {
	case 0:
		op.Kind = near(more, 0, 2)
	case 1:
		op.Seq = near(more, 0, maxVar)
	case 2:
		op.Retire = near(more, 0, op.Seq, maxVar)
	case 3:
		op.Token = more.bytes(more.below(11))
	case 4:
		op.Token = more.bytes(8)
	}
	return op
}

// drawnIds is a run, what is to be answered to it, and what the answers were worked out with.
func drawnIds(more *numbers, count int) (int, []impl.IdOp, []impl.IdObs, *askedIds) {
	a := newAskedIds(2 + more.below(15))
	span := 2 + more.below(60)
	var ops []impl.IdOp
	var want []impl.IdObs
	for range count {
		op := drawnIdOp(more, a, span)
		ops, want = append(ops, op), append(want, a.run(op))
	}
	return a.limit, ops, want, a
}

func TestIdsDrawn(t *testing.T) {
	more := numbers(99)
	again, late, swept, full, ended, moved, none := 0, 0, 0, 0, 0, 0, 0
	for range 20000 {
		limit, ops, want, a := drawnIds(&more, 1+more.below(60))
		idsRun(limit).check(t, ops, want)
		again, late, swept, ended = again+a.again, late+a.late, swept+a.swept, ended+way(a.over)
		for i, obs := range want {
			full += way(obs.Count == limit)
			moved += way(i > 0 && obs.Used > want[i-1].Used)
			none += way(obs.Code == impl.ErrLimit)
		}
	}
	if min(again, late, swept, full, ended, moved, none) < 2000 {
		t.Errorf("%d known again, %d came late, %d sweeps of several, %d with all limit kept, %d ended, %d came into use, %d times there was no other", again, late, swept, full, ended, moved, none)
	}
}

// idBook holds what was told, by the operations and answers alone.
type idBook struct {
	limit, asked, used int
	came               map[int]string
	retired            map[int]int
	over               bool
}

func newIdBook(limit int) *idBook {
	return &idBook{limit: limit, came: map[int]string{0: ""}, retired: map[int]int{}}
}

// left are those that came and were not told as retired, rising.
func (b *idBook) left() []int {
	var nums []int
	for num := range b.came {
		if b.retired[num] == 0 {
			nums = append(nums, num)
		}
	}
	slices.Sort(nums)
	return nums
}

func (b *idBook) frames(t *testing.T, obs impl.IdObs) {
	t.Helper()
	last := -1
	for _, f := range obs.Frames {
		if f.Kind != impl.FRetireId || !impl.FrameOK(f) || f.A <= last {
			t.Fatalf("%+v", obs)
		}
		last = f.A
		if _, ok := b.came[f.A]; !ok {
			t.Fatalf("number %d never came", f.A)
		}
		if b.retired[f.A]++; b.retired[f.A] > 1 {
			t.Fatalf("number %d is told as retired again", f.A)
		}
	}
}

func (b *idBook) ended(t *testing.T, obs impl.IdObs) {
	t.Helper()
	code := impl.ErrIds
	if b.over {
		code = impl.ErrState
	}
	b.over = true
	if !sameIdObs(obs, impl.IdObs{Code: code}) {
		t.Fatalf("the run is over: %+v", obs)
	}
}

func (b *idBook) enter(t *testing.T, op impl.IdOp, obs impl.IdObs) {
	t.Helper()
	if b.over || obs.Code == impl.ErrIds {
		b.ended(t, obs)
		return
	}
	if obs.Code == impl.OK && op.Kind == impl.INew {
		if _, ok := b.came[op.Seq]; !ok {
			b.asked = max(b.asked, op.Retire)
		}
		b.came[op.Seq] = string(op.Cid)
	}
	b.frames(t, obs)
	left := b.left()
	if obs.Code != impl.OK && len(obs.Frames) > 0 || obs.Count != len(left) || obs.Count > b.limit || !slices.Contains(left, obs.Used) || string(obs.Cid) != b.came[obs.Used] {
		t.Fatalf("%+v: %+v; left are %v", op, obs, left)
	}
	switch {
	case b.retired[b.used] == 0 && obs.Used != b.used:
		t.Fatalf("number %d is in use, but was not retired: %+v", b.used, obs)
	case b.retired[b.used] != 0 && obs.Used != left[0]:
		t.Fatalf("%d comes into use, left are %v", obs.Used, left)
	case op.Kind == impl.INext && obs.Code == impl.OK && b.retired[b.used] == 0:
		t.Fatalf("INext has not retired %d", b.used)
	}
	for num := range b.came {
		if num < b.asked && b.retired[num] == 0 {
			t.Fatalf("%d is asked to be retired, but is not: %v", num, left)
		}
	}
	b.used = obs.Used
}

func checkIdBook(t *testing.T, limit int, ops []impl.IdOp) {
	t.Helper()
	book := newIdBook(limit)
	for i, obs := range idsRun(limit).answers(t, ops) {
		book.enter(t, ops[i], obs)
	}
}

func TestP13ByTheAnswersAlone(t *testing.T) {
	more := numbers(100)
	for range 8000 {
		limit, ops, _, _ := drawnIds(&more, 20+more.below(130))
		checkIdBook(t, limit, ops)
	}
}

// All runs of a few operations, of a few kinds.
func TestP13EveryFewOperations(t *testing.T) {
	choices := []impl.IdOp{
		nextId(), issues(1, 0), issues(1, 1), issues(2, 0), issues(2, 1), issues(2, 2), issues(3, 0), issues(3, 2), issues(4, 3), issuesAs(2, 0, string(cidOf(1)), string(tokenOf(2))), issuesAs(3, 3, string(cidOf(3)), "12345678"), {Kind: 1, Seq: 1, Retire: 2, Cid: cidOf(1), Token: tokenOf(1)},
	}
	for _, limit := range []int{2, 3} {
		for count := range 5 {
			eachOp(count, choices, nil, func(ops []impl.IdOp) {
				idsRun(limit).checkAsked(t, ops)
				checkIdBook(t, limit, ops)
			})
		}
	}
}

// idNet is one who issues ids, and never more than the other side keeps, and a network that brings them in any order, some of them twice.
type idNet struct {
	t     *testing.T
	more  numbers
	limit int
	// issued holds those of which the issuer does not know yet that they were retired.
	issued        map[int]int
	next, retire  int
	air           []impl.IdOp
	ops           []impl.IdOp
	told, unheard []int
	last          impl.IdObs
	book          *idBook
}

func newIdNet(t *testing.T, limit int, more numbers) *idNet {
	return &idNet{t: t, more: more, limit: limit, issued: map[int]int{0: 1}, next: 1, book: newIdBook(limit)}
}

func (n *idNet) run(op impl.IdOp) {
	n.t.Helper()
	n.ops = append(n.ops, op)
	n.last = idsRun(n.limit).answers(n.t, n.ops)[len(n.ops)-1]
	n.book.enter(n.t, op, n.last)
	for _, f := range n.last.Frames {
		n.told, n.unheard = append(n.told, f.A), append(n.unheard, f.A)
	}
}

// issue asks now and then that some be retired; all that are issued later ask for as much.
func (n *idNet) issue() {
	retire := n.retire
	if n.more.below(4) == 0 {
		retire = min(n.next, retire+n.more.below(4))
	}
	count := 1
	for num := range n.issued {
		count += way(num >= retire)
	}
	if count > n.limit {
		return
	}
	n.retire = retire
	n.issued[n.next] = 1
	n.air = append(n.air, issues(n.next, retire))
	n.next++
}

func (n *idNet) come() {
	if len(n.air) == 0 {
		return
	}
	at := n.more.below(len(n.air))
	op := n.air[at]
	if n.more.below(4) != 0 {
		n.air = slices.Delete(n.air, at, at+1)
	}
	n.run(op)
	if n.last.Code != impl.OK {
		n.t.Fatalf("%+v: %+v", op, n.last)
	}
}

func (n *idNet) hear() {
	for _, num := range n.unheard {
		delete(n.issued, num)
	}
	n.unheard = nil
}

func (n *idNet) step() {
	switch n.more.below(6) {
	case 0, 1:
		n.issue()
	case 2, 3:
		n.come()
	case 4:
		n.run(nextId())
		if n.last.Code != impl.OK && n.last.Code != impl.ErrLimit {
			n.t.Fatalf("%+v", n.last)
		}
	case 5:
		n.hear()
	}
}

// One who issues no more than may be kept meets no error, and when all has come each number is kept or was told once.
func TestP13InANetwork(t *testing.T) {
	gone := 0
	for seed := range 60 {
		n := newIdNet(t, 2+seed%15, numbers(1000+seed))
		for len(n.ops) < 200 {
			n.step()
		}
		for len(n.air) > 0 && len(n.ops) < 300 {
			n.come()
		}
		if len(n.air) > 0 {
			t.Fatalf("%d are in the air yet", len(n.air))
		}
		n.hear()
		if len(n.told)+n.last.Count != n.next || len(n.issued) != n.last.Count {
			t.Fatalf("%d were issued, %d told as retired, %d are kept", n.next, len(n.told), n.last.Count)
		}
		idsRun(n.limit).checkAsked(t, n.ops)
		gone += len(n.told)
	}
	if gone < 1000 {
		t.Errorf("only %d were retired", gone)
	}
}

func fenceIds(ops []impl.IdOp) fencedRun[impl.IdOp] {
	return fenceRun(ops, issues(77, 5), func(op *impl.IdOp) []*[]byte { return []*[]byte{&op.Cid, &op.Token} })
}

func idRuns() [][]impl.IdOp {
	var many []impl.IdOp
	for num := 1; num < 14; num++ {
		many = append(many, issues(num, 0), issues(num, 0))
	}
	many = append(many, nextId(), issues(20, 12), issues(11, 0), nextId(), nextId(), nextId(), issues(21, 21), issues(3, 0), issues(19, 0), impl.IdOp{Kind: 1, Seq: 1}, impl.IdOp{Kind: 7}, issuesAs(19, 0, "x", "12345678"), nextId())
	wrong := []impl.IdOp{issuesAs(1, 0, "", "12345678"), issuesAs(1, 0, "123456789", "12345678"), issuesAs(1, 0, "1", "1234567"), issuesAs(1, 0, "1", "123456789"), {Kind: 3, Cid: []byte("abc"), Token: []byte("def")}, {Kind: 2, Cid: []byte("abc"), Token: []byte("def")}, issues(1, 0), issuesAs(1, 0, "z", "12345678"), issues(2, 0)}
	return [][]impl.IdOp{nil, {nextId()}, {issues(1, 1)}, idOpsOf(knownIds()), many, many[:len(many)-3], wrong, {issuesAs(3, 0, "same", "samesame"), issuesAs(3, 0, "same", "samesame"), nextId(), nextId(), nextId()}}
}

// checkIdShares spoils the lists of the answers one by one, with the room behind them: those that are left must stay as they were.
func checkIdShares(t *testing.T, got, want []impl.IdObs) {
	t.Helper()
	for i := range got {
		spoil(got[i].Cid)
		if !slices.EqualFunc(got[i].Frames, want[i].Frames, sameFrame) {
			t.Fatalf("answer %d: the frames share memory with the Cid", i)
		}
		spoilFrames(got[i].Frames)
		for j := i + 1; j < len(got); j++ {
			if !sameIdObs(got[j], want[j]) {
				t.Fatalf("the answers %d and %d share memory", i, j)
			}
		}
	}
}

func TestP1IdsMemory(t *testing.T) {
	for _, run := range idRuns() {
		arg := fenceIds(run)
		want, _ := impl.IdsRun(16, arg.list)
		got, _ := impl.IdsRun(16, arg.list)
		arg.check(t, "IdsRun")
		checkIdShares(t, got, want)
		clear(got[:cap(got)])
		arg.check(t, "IdsRun")
		idsRun(16).check(t, arg.list, want)
		idsRun(16).checkAsked(t, arg.list)
	}
	long := fenceIds(make([]impl.IdOp, 301))
	idsRun(2).refuses(t, long.list, impl.ErrLong)
	idsRun(1).refuses(t, long.list[:3], impl.ErrBad)
	long.check(t, "IdsRun")
}

// Lists of the operations may lie in one memory, and one may be a part of another.
func TestP1IdsThatLieTogether(t *testing.T) {
	row := amid([]byte("abcdefghijklmnopqrstuvwxyz"), 0xee)
	ops := []impl.IdOp{
		{Kind: 1, Seq: 1, Cid: row.list[:8], Token: row.list[:8]}, {Kind: 1, Seq: 2, Cid: row.list[:7], Token: row.list[4:12]}, {Kind: 1, Seq: 3, Cid: row.list[1:8], Token: row.list[18:]}, {Kind: 2}, {Kind: 1, Seq: 3, Cid: row.list[1:8], Token: row.list[18:]},
		{Kind: 1, Seq: 5, Retire: 3, Cid: row.list[25:], Token: row.list[:8]}, {Kind: 2}, {Kind: 1, Seq: 1, Cid: row.list[:8], Token: row.list[:8]}, {Kind: 1, Seq: 4, Cid: row.list[:8], Token: row.list[:8]},
	}
	want := []impl.IdObs{
		{Count: 2}, {Count: 3}, {Count: 4}, {Used: 1, Count: 3, Cid: []byte("abcdefgh"), Frames: retireds(0)}, {Used: 1, Count: 3, Cid: []byte("abcdefgh")},
		{Used: 3, Count: 2, Cid: []byte("bcdefgh"), Frames: retireds(1, 2)}, {Used: 5, Count: 1, Cid: []byte("z"), Frames: retireds(3)}, {Used: 5, Count: 1, Cid: []byte("z")}, {Code: impl.ErrIds},
	}
	idsRun(4).check(t, ops, want)
	idsRun(4).checkAsked(t, ops)
	row.check(t, "IdsRun")
	got, _ := impl.IdsRun(4, ops)
	for i := range got {
		spoil(got[i].Cid)
	}
	row.check(t, "changing what IdsRun answered")
	idsRun(4).check(t, ops, want)
}

// What stands behind the end of a list is not of it.
func TestP1NoIdOperationBehindTheEndIsRun(t *testing.T) {
	ops := slices.Repeat([]impl.IdOp{nextId()}, 301)
	idsRun(2).checkAsked(t, ops[:300])
	idsRun(2).checkAsked(t, ops[:0])
	two := []impl.IdOp{issues(1, 0), issuesAs(0, 0, "x", "12345678")}
	idsRun(2).check(t, two[:1], []impl.IdObs{impl.IdObs(uses(0, 2))})
	long := []byte("123456789")
	checkIdSteps(t, 2, []idStep{{impl.IdOp{Kind: 1, Seq: 1, Cid: long[:8], Token: long[1:]}, uses(0, 2)}, {nextId(), uses(1, 1).named("12345678").retires(0)}, {impl.IdOp{Kind: 1, Seq: 2, Cid: long[:1], Token: long[:8]}, uses(1, 2).named("12345678")}, {impl.IdOp{Kind: 1, Seq: 3, Retire: 2, Cid: long[:2], Token: long[:8]}, uses(2, 2).named("1").retires(1)}})
	checkIdSteps(t, 2, []idStep{{impl.IdOp{Kind: 1, Seq: 1, Cid: long[:0], Token: long[:8]}, uses(0, 1).bad()}, {impl.IdOp{Kind: 1, Seq: 1, Cid: long[:8], Token: long[:7]}, uses(0, 1).bad()}})
}

// Nothing is kept from call to call: a run answers the same behind any other.
func TestP1IdsKeepNothing(t *testing.T) {
	checkKeepsNothing(t, func() string {
		var lines []string
		for _, ops := range idRuns() {
			got, code := impl.IdsRun(16, ops)
			lines = append(lines, fmt.Sprint(got, code))
		}
		return fmt.Sprint(lines)
	})
}

func TestP1IdsRunTakesAnyIntegers(t *testing.T) {
	ahead := idOpsOf(knownIds())
	behind := []impl.IdOp{issues(4, 0), issues(7, 0), nextId(), issues(9, 8), issues(maxVar, 0), nextId()}
	for _, v := range oddInts() {
		mustEnd(t, fmt.Sprintf("IdsRun with %d", v), func() {
			for _, w := range []int{v, 0, 1, 5, 6, -1, maxVar, math.MinInt, math.MaxInt} {
				for kind := range 4 {
					for _, op := range []impl.IdOp{
						{Kind: kind, Seq: v, Retire: w, Cid: []byte("new"), Token: []byte("12345678")}, {Kind: kind, Seq: w, Retire: v, Cid: []byte("new"), Token: []byte("12345678")}, {Kind: v, Seq: w, Retire: w, Cid: []byte("new"), Token: []byte("12345678")}, {Kind: kind, Seq: v, Retire: w}, {Kind: kind, Seq: v, Cid: bytes.Repeat([]byte{1}, 300)},
					} {
						idsRun(3).checkAsked(t, slices.Concat(ahead, []impl.IdOp{op}, behind))
						idsRun(2).checkAsked(t, slices.Concat([]impl.IdOp{op, op}, behind))
					}
				}
			}
			got, code := impl.IdsRun(v, ahead)
			if want := map[bool]int{true: impl.OK, false: impl.ErrBad}[inRange(v, 2, 16)]; code != want || (code != impl.OK) != (len(got) == 0) {
				t.Errorf("IdsRun(%d, ..) = %d answers, code %d", v, len(got), code)
			}
		})
	}
}
