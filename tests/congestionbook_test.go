package tests

import (
	"fmt"
	"math"
	"slices"
	"sort"
	"testing"

	"loop.example/g00012/impl"
)

// drawnCcTime goes on by steps of a pace mostly; now and then it stands, goes back or lies anywhere.
func drawnCcTime(more *numbers, now, pace int) int {
	switch more.below(12) {
	case 0:
		return now
	case 1:
		return max(0, now-more.below(1<<pace))
	}
	return min(maxTime, now+more.below(1<<pace))
}

// drawnCcOp has things in the fields that its kind does not ask for, too.
func drawnCcOp(more *numbers, a *askedCc, now, pace, width int) impl.CcOp {
	op := impl.CcOp{Kind: []int{1, 1, 1, 2, 2, 2, 2, 3, 4}[more.below(9)], Time: drawnCcTime(more, now, pace), Bytes: more.below(2001), Sent: max(0, now-more.below(1<<pace)), Trip: 1 + more.below(1<<width)}
	if op.Kind == 3 && more.below(3) == 0 {
		op.Sent = max(0, a.mark-1+more.below(3))
	}
	if n := len(a.acks); n > 0 && more.below(3) == 0 {
		op.Sent = max(0, a.acks[n-1-more.below(min(n, 9))].Time-1+more.below(3))
	}
	if (op.Kind == 2 || op.Kind == 3) && more.below(20) != 0 {
		op.Bytes = min(op.Bytes, a.flight)
	}
	if room := a.window - a.flight; op.Kind == 4 && inRange(room, 1, 1999) {
		op.Bytes = room - 1 + more.below(3)
	}
	if a.state == 3 && more.below(2) == 0 {
		op.Time = min(maxTime, a.turn+a.floor()-1+more.below(3))
	}
	if rest := a.window - a.rest; a.kind == 1 && op.Kind == 2 && inRange(rest, 1, 1999) && more.below(2) == 0 {
		op.Bytes = rest - 1 + more.below(3)
	}
	switch more.below(90) {
	case 0:
		op.Kind = near(more, 0, 4)
	case 1:
		op.Time = near(more, 0, now, maxTime)
	case 2:
		op.Sent = near(more, 0, now, maxTime)
	case 3:
		op.Bytes = near(more, 0, a.flight, 2000)
	case 4:
		op.Trip = near(more, 1, maxTime)
	}
	return op
}

// drawnCc is a run, what is to be answered to it, and what the answers were worked out with.
func drawnCc(more *numbers, kind, count int) ([]impl.CcOp, []impl.CcObs, *askedCc) {
	a := newAskedCc(kind)
	pace, width, now := 1+more.below(24), more.below(24), more.below(1000)
	if more.below(12) == 0 {
		width = 40
	}
	var ops []impl.CcOp
	var want []impl.CcObs
	for range count {
		op := drawnCcOp(more, a, now, pace, min(width, 39))
		if isTime(op.Time) {
			now = op.Time
		}
		ops, want = append(ops, op), append(want, a.run(op))
	}
	return ops, want, a
}

func TestCongestionDrawn(t *testing.T) {
	more := numbers(97)
	var met [4]int
	falls, rounds, capped, may, mayNot, turns := 0, 0, 0, 0, 0, 0
	for range 6000 {
		kind := 1 + more.below(2)
		ops, want, a := drawnCc(&more, kind, 1+more.below(120))
		checkCc(t, kind, ops, want)
		for i, obs := range want {
			met[obs.State]++
			asked := ops[i].Kind == 4 && obs.Code == impl.OK
			may, mayNot = may+way(obs.May), mayNot+way(asked && !obs.May)
			falls += way(i > 0 && kind == 1 && obs.Window < want[i-1].Window)
		}
		rounds, capped, turns = rounds+a.rounds, capped+a.capped, turns+way(a.phase > 0)
	}
	if min(slices.Min(met[:]), falls, rounds, capped, may, mayNot, turns) < 500 {
		t.Errorf("states %v, %d falls, %d rounds, %d at a limit, %d may be sent, %d may not, %d runs with a second phase", met, falls, rounds, capped, may, mayNot, turns)
	}
}

// ccBook holds what was told, by the operations and answers alone.
type ccBook struct {
	kind, sent, gone int
	last             impl.CcObs
	mark, falls      int
	heard            bool
}

func newCcBook(kind int) *ccBook {
	return &ccBook{kind: kind, last: impl.CcObs{Window: 12000}, mark: -1}
}

// bounds tells whether the answer is one that may be told at all.
func (b *ccBook) bounds(t *testing.T, op impl.CcOp, obs impl.CcObs) {
	t.Helper()
	states := map[int][]int{impl.CcLoss: {0, 1}, impl.CcModel: {0, 2, 3}}[b.kind]
	if !inRange(obs.Window, leastWindow, mostWindow) || !inRange(obs.Rate, 0, maxRate) || !slices.Contains(states, obs.State) {
		t.Fatalf("rule %d: %+v", b.kind, obs)
	}
	if obs.Flight != b.sent-b.gone || obs.May != (obs.Code == impl.OK && op.Kind == impl.CAsk && obs.Flight+op.Bytes <= obs.Window) {
		t.Fatalf("%d bytes were sent, %d are gone; %+v: %+v", b.sent, b.gone, op, obs)
	}
}

// same tells whether window, rate and state are as they were.
func (b *ccBook) same(obs impl.CcObs) bool {
	return obs.Window == b.last.Window && obs.Rate == b.last.Rate && obs.State == b.last.State
}

func (b *ccBook) lossRule(t *testing.T, op impl.CcOp, obs impl.CcObs) {
	t.Helper()
	grown := obs.Window - b.last.Window
	switch {
	case obs.Rate != 0, op.Sent <= b.mark && !b.same(obs):
		t.Fatalf("sent at %d, the mark is %d: %+v behind %+v", op.Sent, b.mark, obs, b.last)
	case op.Sent <= b.mark:
	case op.Kind == impl.CAcked:
		if obs.State == impl.CcStart && grown != op.Bytes || obs.State == impl.CcHold && grown != 0 && grown != 1200 || obs.State < b.last.State {
			t.Fatalf("%+v: %+v behind %+v", op, obs, b.last)
		}
	default:
		if obs.Window != max(b.last.Window/2, leastWindow) || obs.State != impl.CcHold {
			t.Fatalf("%+v: %+v behind %+v", op, obs, b.last)
		}
		b.mark = op.Time
		b.falls++
	}
}

func (b *ccBook) modelRule(t *testing.T, op impl.CcOp, obs impl.CcObs) {
	t.Helper()
	if op.Kind == impl.CLost {
		if !b.same(obs) {
			t.Fatalf("a loss: %+v behind %+v", obs, b.last)
		}
		return
	}
	b.heard = true
	follow := [][2]int{{0, 0}, {0, 2}, {2, 2}, {2, 3}, {3, 3}}
	if obs.Window < 4800 || !slices.Contains(follow, [2]int{b.last.State, obs.State}) {
		t.Fatalf("%+v: %+v behind %+v", op, obs, b.last)
	}
}

func (b *ccBook) enter(t *testing.T, op impl.CcOp, obs impl.CcObs) {
	t.Helper()
	quiet := obs.Code != impl.OK || op.Kind == impl.CSent || op.Kind == impl.CAsk
	switch {
	case obs.Code != impl.OK:
	case op.Kind == impl.CSent:
		b.sent += op.Bytes
	case !quiet:
		b.gone += op.Bytes
	}
	b.bounds(t, op, obs)
	switch {
	case quiet && !b.same(obs):
		t.Fatalf("%+v: %+v behind %+v", op, obs, b.last)
	case quiet:
	case b.kind == impl.CcLoss:
		b.lossRule(t, op, obs)
	default:
		b.modelRule(t, op, obs)
	}
	if b.kind == impl.CcModel && !b.heard && (obs.Window != 12000 || obs.Rate != 0) {
		t.Fatalf("nothing was acknowledged: %+v", obs)
	}
	b.last = obs
}

func TestP11ByTheAnswersAlone(t *testing.T) {
	more := numbers(98)
	for range 4000 {
		kind := 1 + more.below(2)
		ops, _, _ := drawnCc(&more, kind, 20+more.below(130))
		got, code := impl.CcRun(kind, ops)
		if code != impl.OK || len(got) != len(ops) {
			t.Fatalf("code %d", code)
		}
		book := newCcBook(kind)
		for i, op := range ops {
			book.enter(t, op, got[i])
		}
	}
}

// Every order of a few acknowledgements and losses about a mark.
func TestP11EveryFewOperations(t *testing.T) {
	ahead := slices.Repeat([]impl.CcOp{ccSent(0, 2000)}, 7)
	choices := []impl.CcOp{ccAcked(10, 4, 2000, 10), ccAcked(11, 5, 2000, 6), ccAcked(12, 6, 1200, 20), ccAcked(30, 12, 1900, 9), ccLost(5, 4, 100), ccLost(12, 5, 2000), ccLost(6, 6, 0), ccAsk(900), ccSent(9, 1800)}
	eachRule(func(kind int) {
		eachOp(5, choices, nil, func(few []impl.CcOp) {
			ops := slices.Concat(ahead, few)
			checkCcAsked(t, kind, ops)
			got, _ := impl.CcRun(kind, ops)
			book := newCcBook(kind)
			for i, op := range ops {
				book.enter(t, op, got[i])
			}
		})
	})
}

// ccNews is what will be heard of a packet.
type ccNews struct {
	time, sent int
	lost       bool
}

// ccNet is a sender of full packets, at the rate that is told if one is, and a network that lets a packet through
// each gap microseconds, has room for so many that wait, and loses the others.
type ccNet struct {
	t               *testing.T
	book            *ccBook
	ops             []impl.CcOp
	last            impl.CcObs
	news            []ccNews
	now, free, next int
	trip, gap, room int
	losses, greedy  int
	falls           []int
}

func newCcNet(t *testing.T, kind, trip, gap, room int) *ccNet {
	return &ccNet{t: t, book: newCcBook(kind), trip: trip, gap: gap, room: room}
}

// run gives the answer to one more operation: all of them are run anew.
func (n *ccNet) run(op impl.CcOp) impl.CcObs {
	n.t.Helper()
	n.ops = append(n.ops, op)
	got, code := impl.CcRun(n.book.kind, n.ops)
	if code != impl.OK || got[len(got)-1].Code != impl.OK {
		n.t.Fatalf("%+v was refused: code %d", op, code)
	}
	was := n.book.last.Window
	n.last = got[len(got)-1]
	n.book.enter(n.t, op, n.last)
	if n.book.kind == impl.CcLoss && n.last.Window < was {
		n.fell(op)
	}
	return n.last
}

// fell tells whether what was lost was sent behind all falls so far.
func (n *ccNet) fell(op impl.CcOp) {
	n.t.Helper()
	if len(n.falls) > 0 && op.Sent <= slices.Max(n.falls) {
		n.t.Fatalf("%+v makes the window fall again: it fell at %v", op, n.falls)
	}
	n.falls = append(n.falls, op.Time)
}

func (n *ccNet) send() {
	n.t.Helper()
	n.run(ccSent(n.now, 1200))
	if n.last.Rate > 0 {
		n.next = n.now + impl.PaceDelay(1200, n.last.Rate)
	}
	through := max(n.now, n.free) + n.gap
	each := ccNews{time: through + n.trip, sent: n.now}
	if through-n.now > n.gap*n.room {
		each = ccNews{time: n.now + 2*n.trip + n.gap*n.room, sent: n.now, lost: true}
		n.losses++
	} else {
		n.free = through
	}
	n.news = append(n.news, each)
	sort.SliceStable(n.news, func(i, j int) bool { return n.news[i].time < n.news[j].time })
}

func (n *ccNet) hear() {
	n.t.Helper()
	each := n.news[0]
	n.news, n.now = n.news[1:], each.time
	if each.lost {
		n.run(ccLost(n.now, each.sent, 1200))
		return
	}
	n.run(ccAcked(n.now, each.sent, 1200, n.now-each.sent))
}

// goOn sends what may be sent, and hears, as long as a run can be.
func (n *ccNet) goOn() {
	n.t.Helper()
	for len(n.ops) < 598 {
		heard := len(n.news) == 0 || n.news[0].time > n.next
		if heard && n.run(ccAsk(1200)).May {
			n.now = max(n.now, n.next)
			n.send()
			n.greedy = max(n.greedy, n.last.Flight)
			continue
		}
		n.hear()
	}
}

// In a network that loses nothing the window grows by all that is acknowledged.
func TestP11LossRuleInAGoodNetwork(t *testing.T) {
	for _, trip := range []int{1, 1000, 50000, 333000} {
		n := newCcNet(t, impl.CcLoss, trip, 1, 1000000)
		n.goOn()
		if n.losses != 0 || n.last.Window != 12000+n.book.gone || n.last.State != impl.CcStart || n.greedy > n.last.Window || n.book.gone < 90*1200 {
			t.Errorf("round trips of %d: %d bytes gone, %+v", trip, n.book.gone, n.last)
		}
	}
}

// In one with little room it falls, once for all that was lost of what was on its way.
func TestP11LossRuleInABadNetwork(t *testing.T) {
	falls, spared := 0, 0
	for _, trip := range []int{2000, 20000, 90000} {
		for _, room := range []int{3, 5, 9, 17, 30} {
			n := newCcNet(t, impl.CcLoss, trip, 1000, room)
			n.goOn()
			lost := 0
			for _, op := range n.ops {
				lost += way(op.Kind == impl.CLost)
			}
			if lost > 0 && len(n.falls) == 0 || len(n.falls) > lost {
				t.Errorf("round trips of %d, room for %d: %d losses, it fell at %v", trip, room, lost, n.falls)
			}
			falls, spared = falls+len(n.falls), spared+lost-len(n.falls)
		}
	}
	if falls < 20 || spared < 50 {
		t.Errorf("it fell %d times, and did not at %d losses", falls, spared)
	}
}

// The model finds how fast the network is, and how long the way, also where the first packets find too little room.
func TestP11ModelInANetwork(t *testing.T) {
	for _, trip := range []int{4000, 10000} {
		for _, gap := range []int{1000, 800} {
			for _, room := range []int{8, 1000} {
				n := newCcNet(t, impl.CcModel, trip, gap, room)
				n.goOn()
				rate, product := 1200*1000000/gap, 1200*(trip+gap)/gap
				if (n.losses > 0) != (room == 8) || n.last.State != impl.CcCruise || !inRange(n.last.Rate, rate*6/8*9/10, rate*10/8*11/10) || !inRange(n.last.Window, 2*product*9/10, 2*product*11/10) {
					t.Errorf("round trips of %d, a packet each %d, room for %d: %d losses, %+v; the rate is %d, the product %d", trip, gap, room, n.losses, n.last, rate, product)
				}
			}
		}
	}
}

func ccRuns() [][]impl.CcOp {
	busy := []impl.CcOp{ccSent(0, 2000), ccAsk(2000), ccSent(1, 2000), ccSent(2, 2000), ccAcked(1000, 0, 2000, 1000), ccLost(1001, 1, 500), ccAcked(1002, 2, 1000, 900), {Kind: 9}, ccLost(1003, 2, 2001), ccAcked(1100, 1, 700, 300), ccAcked(1200, 1100, 1, 300), ccAcked(1200, 1199, 9, 40), ccAcked(1300, 2, 3000, 7), ccAcked(1300, 2, 700, 0), ccAsk(1), ccSent(1400, 1)}
	long := slices.Repeat([]impl.CcOp{ccSent(5, 2000), ccSent(6, 1000), ccAcked(4000, 5, 1500, 3000), ccLost(4000, 6, 100), ccAcked(4100, 4050, 1200, 50), ccAsk(2000)}, 100)
	return [][]impl.CcOp{nil, {ccAsk(0)}, {ccSent(0, 5), ccAcked(1, 0, 5, 1)}, busy, busy[:7], long}
}

func TestP1CongestionMemory(t *testing.T) {
	mark := impl.CcOp{Kind: 1, Time: 2, Bytes: 3, Sent: 4, Trip: 5}
	eachRule(func(kind int) {
		for _, run := range ccRuns() {
			arg := amid(run, mark)
			want, _ := impl.CcRun(kind, arg.list)
			got, _ := impl.CcRun(kind, arg.list)
			arg.check(t, "CcRun")
			for i := range got[:cap(got)] {
				got[:cap(got)][i] = impl.CcObs{Code: -7, Window: -7, Rate: -7, State: -7, Flight: -7, May: true}
			}
			arg.check(t, "CcRun")
			checkCc(t, kind, arg.list, want)
			checkCcAsked(t, kind, arg.list)
			// The operations are the caller's again, when it has its answers.
			kept := slices.Clone(want)
			clear(arg.whole)
			if !slices.Equal(want, kept) {
				t.Errorf("CcRun(%d): an answer changes with its operations", kind)
			}
		}
		long := amid(make([]impl.CcOp, 601), mark)
		refusesCc(t, kind, long.list, impl.ErrLong)
		refusesCc(t, kind+2, long.list[:3], impl.ErrBad)
		long.check(t, "CcRun")
	})
}

// What stands behind the end of a list is not of it.
func TestP1NoCongestionOperationBehindTheEndIsRun(t *testing.T) {
	eachRule(func(kind int) {
		ops := slices.Repeat([]impl.CcOp{ccSent(0, 1)}, 601)
		checkCcAsked(t, kind, ops[:600])
		checkCcAsked(t, kind, ops[:0])
		checkCc(t, kind, ops[:1], []impl.CcObs{{Window: 12000, Flight: 1}})
		checkCc(t, kind, ops[1:3], []impl.CcObs{{Window: 12000, Flight: 1}, {Window: 12000, Flight: 2}})
	})
}

// Nothing is kept from call to call: a run answers the same behind any other.
func TestP1CongestionKeepsNothing(t *testing.T) {
	ask := func() string {
		var lines []string
		for _, ops := range ccRuns() {
			eachRule(func(kind int) {
				got, code := impl.CcRun(kind, ops)
				lines = append(lines, fmt.Sprint(got, code))
			})
		}
		return fmt.Sprint(lines)
	}
	first := ask()
	for range 5 {
		if again := ask(); again != first {
			t.Errorf("first %s, then %s", first, again)
		}
	}
}

func TestP1CongestionTakesAnyIntegers(t *testing.T) {
	ahead, behind := ccRuns()[3][:7], ccRuns()[3][7:]
	for _, v := range append(oddInts(), 2000, 2001, maxTime-1, maxTime, maxTime+1) {
		mustEnd(t, fmt.Sprintf("CcRun with %d", v), func() {
			for _, w := range []int{v, 0, 1, 7, -1, 2000, maxTime, math.MinInt, math.MaxInt} {
				for kind := range 6 {
					for _, op := range []impl.CcOp{
						{Kind: kind, Time: v, Bytes: 9, Sent: w, Trip: 9}, {Kind: kind, Time: w, Bytes: 9, Sent: v, Trip: 9}, {Kind: kind, Time: 1000, Bytes: v, Sent: 900, Trip: w}, {Kind: kind, Time: 1000, Bytes: w, Sent: 900, Trip: v}, {Kind: v, Time: 1000, Bytes: w, Sent: 900, Trip: 9}, {Kind: kind, Time: v, Bytes: v, Sent: v, Trip: v}, {Kind: v, Time: w, Bytes: w, Sent: w, Trip: w},
					} {
						eachRule(func(rule int) {
							checkCcAsked(t, rule, slices.Concat(ahead, []impl.CcOp{op}, behind))
							checkCcAsked(t, rule, slices.Concat([]impl.CcOp{op, op}, behind))
						})
					}
				}
			}
			got, code := impl.CcRun(v, ahead)
			if want := map[bool]int{true: impl.OK, false: impl.ErrBad}[v == 1 || v == 2]; code != want || (code != impl.OK) != (len(got) == 0) {
				t.Errorf("CcRun(%d, ..) = %d answers, code %d", v, len(got), code)
			}
		})
	}
}
