package tests

import (
	"fmt"
	"math"
	"slices"
	"testing"

	"loop.example/g00012/impl"
)

// fate is what was told of a packet.
type fate struct {
	size  int
	asks  bool
	acked bool
	lost  bool
}

// recBook holds what was told of each packet, by the operations and answers alone.
type recBook struct {
	packets  map[int]fate
	greatest int
	last     impl.RecObs
	trips    []int
}

func newRecBook() *recBook {
	return &recBook{packets: map[int]fate{}, greatest: -1, last: impl.RecObs{Timer: -1}}
}

func (b *recBook) tell(t *testing.T, nums []int, change func(*fate)) {
	t.Helper()
	if !slices.IsSorted(nums) {
		t.Fatalf("%v do not rise", nums)
	}
	for _, n := range nums {
		p, sent := b.packets[n]
		if !sent || !p.asks || p.acked || p.lost {
			t.Fatalf("%d of %v: was sent %v, %+v", n, nums, sent, p)
		}
		change(&p)
		b.packets[n] = p
	}
}

func (b *recBook) ack(t *testing.T, op impl.RecOp, obs impl.RecObs) {
	t.Helper()
	b.tell(t, obs.Acked, func(p *fate) { p.acked = true })
	for _, n := range obs.Acked {
		if !impl.RangesHas(op.Ranges, n) {
			t.Fatalf("%d is acknowledged, and not in %v", n, op.Ranges)
		}
	}
	for n, p := range b.packets {
		if p.asks && !p.acked && !p.lost && impl.RangesHas(op.Ranges, n) {
			t.Fatalf("%d of %v was in flight, and is not acknowledged", n, op.Ranges)
		}
	}
	b.greatest = max(b.greatest, op.Ranges[len(op.Ranges)-1].Hi)
}

// adds tells whether Flight is the sum of those in neither, and Timer -1 just if there are none.
func (b *recBook) adds(t *testing.T, obs impl.RecObs) {
	t.Helper()
	sum, count := 0, 0
	for _, p := range b.packets {
		if p.asks && !p.acked && !p.lost {
			sum, count = sum+p.size, count+1
		}
	}
	if obs.Flight != sum || (obs.Timer == -1) != (count == 0) || obs.Timer < -1 {
		t.Fatalf("%d packets of %d bytes are in flight: %+v", count, sum, obs)
	}
}

func (b *recBook) refused(t *testing.T, obs impl.RecObs) {
	t.Helper()
	if len(obs.Acked) != 0 || len(obs.Lost) != 0 || obs.Probe || obs.Flight != b.last.Flight || obs.Timer != b.last.Timer || obs.Probes != b.last.Probes || obs.Rtt != b.last.Rtt {
		t.Fatalf("beside a code: %+v, behind %+v", obs, b.last)
	}
}

func (b *recBook) enter(t *testing.T, op impl.RecOp, obs impl.RecObs) {
	t.Helper()
	if obs.Code != impl.OK {
		b.refused(t, obs)
		return
	}
	if len(obs.Acked) != 0 && op.Kind != impl.RAck || len(obs.Lost) != 0 && op.Kind == impl.RSent || obs.Probe && op.Kind != impl.RTimer {
		t.Fatalf("%+v: %+v", op, obs)
	}
	switch op.Kind {
	case impl.RSent:
		b.packets[op.Num] = fate{size: op.Size, asks: op.Asks}
	case impl.RAck:
		b.ack(t, op, obs)
	}
	b.tell(t, obs.Lost, func(p *fate) { p.lost = true })
	for _, n := range obs.Lost {
		if n >= b.greatest {
			t.Fatalf("%d is lost, and %d is the greatest that was acknowledged", n, b.greatest)
		}
	}
	b.adds(t, obs)
	b.probes(t, op, obs)
	b.trip(t, op, obs)
	b.last = obs
}

// probes tells whether they are counted from one acknowledgement to the next.
func (b *recBook) probes(t *testing.T, op impl.RecOp, obs impl.RecObs) {
	t.Helper()
	want := b.last.Probes
	switch {
	case len(obs.Acked) > 0:
		want = 0
	case obs.Probe:
		want++
	}
	due := op.Kind == impl.RTimer && b.last.Timer != -1 && b.last.Timer <= op.Time
	if obs.Probes != want || due != (obs.Probe || op.Kind == impl.RTimer && len(obs.Lost) > 0) {
		t.Fatalf("%+v behind %+v: %+v", op, b.last, obs)
	}
}

// trip tells whether the least is the least of all, and the smooth one between the least and the greatest.
func (b *recBook) trip(t *testing.T, op impl.RecOp, obs impl.RecObs) {
	t.Helper()
	if len(obs.Acked) == 0 || obs.Acked[len(obs.Acked)-1] != op.Ranges[len(op.Ranges)-1].Hi {
		if obs.Rtt != b.last.Rtt {
			t.Fatalf("%+v: nothing was measured, and the round trip is %v behind %v", op, obs.Rtt, b.last.Rtt)
		}
		return
	}
	b.trips = append(b.trips, obs.Rtt.Latest)
	if least, greatest := slices.Min(b.trips), slices.Max(b.trips); obs.Rtt.Least != least || !inRange(obs.Rtt.Smooth, least, greatest) || least < 1 {
		t.Fatalf("round trips from %d to %d: %v", least, greatest, obs.Rtt)
	}
}

func TestP10ByTheAnswersAlone(t *testing.T) {
	more := numbers(94)
	for range 3000 {
		maxDelay, ops, _ := drawnRec(&more, 20+more.below(130))
		got, code := impl.RecoveryRun(maxDelay, ops)
		if code != impl.OK || len(got) != len(ops) {
			t.Fatalf("code %d", code)
		}
		book := newRecBook()
		for i, op := range ops {
			book.enter(t, op, got[i])
		}
	}
}

// eachOp gives all runs of so many operations out of a few.
func eachOp[Op any](count int, choices, ahead []Op, ask func([]Op)) {
	if count == 0 {
		ask(ahead)
		return
	}
	for _, op := range choices {
		eachOp(count-1, choices, append(ahead[:len(ahead):len(ahead)], op), ask)
	}
}

// Every order of a few acknowledgements and timers, behind packets of which one does not ask.
func TestP10EveryFewOperations(t *testing.T) {
	sent := []impl.RecOp{sizedAt(0, 0, 1), sizedAt(0, 1, 2), quietAt(0, 2), sizedAt(300, 3, 4), sizedAt(500, 5, 8)}
	choices := []impl.RecOp{acksAt(1000, 0, 0), acksAt(1000, 1, 1), acksAt(1000, 2, 2), acksAt(1000, 3, 3), acksAt(1000, 5, 5), acksAt(1000, 0, 3), acksAt(1000, 1, 1, 5, 5), timerAt(1000), sizedAt(1000, 6, 16), acksAt(1000, 6, 6)}
	eachOp(4, choices, nil, func(few []impl.RecOp) {
		ops := slices.Concat(sent, few)
		for i := range few {
			ops[len(sent)+i].Time += 400 * i
		}
		ops = append(ops, timerAt(4000), timerAt(2000000), acksAt(2000000, 0, 3, 5, 5))
		checkRecAsked(t, 0, ops)
		got, _ := impl.RecoveryRun(0, ops)
		book := newRecBook()
		for i, op := range ops {
			book.enter(t, op, got[i])
		}
		if last := got[len(got)-1]; last.Code != impl.OK || last.Flight > 16 {
			t.Fatalf("%+v behind\n  %s", last, toldRecOps(ops))
		}
	})
}

// recNet is a sender, and a network that takes a while both ways and may lose.
type recNet struct {
	t          *testing.T
	ops        []impl.RecOp
	book       *recBook
	came       []impl.Range
	acks       []impl.RecOp
	last       impl.RecObs
	now, trip  int
	acked      []int
	lost       []int
	probeCount int
}

func newRecNet(t *testing.T, trip int) *recNet {
	return &recNet{t: t, book: newRecBook(), trip: trip, last: impl.RecObs{Timer: -1}}
}

// run gives the answer to one more operation: all of them are run anew.
func (n *recNet) run(op impl.RecOp) impl.RecObs {
	n.t.Helper()
	n.ops = append(n.ops, op)
	got, code := impl.RecoveryRun(0, n.ops)
	if code != impl.OK || got[len(got)-1].Code != impl.OK {
		n.t.Fatalf("%+v was refused: code %d", op, code)
	}
	n.last = got[len(got)-1]
	n.book.enter(n.t, op, n.last)
	n.acked, n.lost = append(n.acked, n.last.Acked...), append(n.lost, n.last.Lost...)
	n.probeCount += way(n.last.Probe)
	return n.last
}

// send puts an acknowledgement of all that came on its way, if the packet comes.
func (n *recNet) send(num int, comes bool) {
	n.t.Helper()
	n.run(sentAt(n.now, num))
	if !comes {
		return
	}
	n.came, _ = impl.RangesAdd(n.came, num)
	n.acks = append(n.acks, impl.RecOp{Kind: impl.RAck, Time: n.now + n.trip, Ranges: slices.Clone(n.came)})
}

// until lets time go on to at: acknowledgements come, and the timer goes off when it is due.
func (n *recNet) until(at int) {
	n.t.Helper()
	for {
		switch timer := n.last.Timer; {
		case len(n.acks) > 0 && n.acks[0].Time <= at && (timer == -1 || n.acks[0].Time <= timer):
			n.now = n.acks[0].Time
			n.run(n.acks[0])
			n.acks = n.acks[1:]
		case timer != -1 && timer <= at:
			n.now = max(n.now, timer)
			n.run(timerAt(n.now))
		default:
			n.now = at
			return
		}
	}
}

// In a good network nothing is lost, and no probe is due.
func TestP10InAGoodNetwork(t *testing.T) {
	for _, trip := range []int{1, 80, 900, 1000, 50000, 333000, 990000} {
		for _, gap := range []int{0, 1, 70, trip / 3, trip, 2 * trip} {
			n := newRecNet(t, trip)
			for num := range 60 {
				n.send(num, true)
				n.until(n.now + gap)
			}
			n.until(n.now + 3*trip)
			if len(n.acked) != 60 || len(n.lost) != 0 || n.probeCount != 0 || n.last.Flight != 0 || n.last.Timer != -1 {
				t.Errorf("round trips of %d, each %d a packet: %d acknowledged, %d lost, %d probes, %+v", trip, gap, len(n.acked), len(n.lost), n.probeCount, n.last)
			}
			if r := n.last.Rtt; r.Latest != trip || r.Least != trip || r.Smooth != trip {
				t.Errorf("all round trips were %d: %v", trip, r)
			}
		}
	}
}

// In a bad network just those are lost that did not come, if others come behind them.
func TestP10InABadNetwork(t *testing.T) {
	more := numbers(95)
	for range 60 {
		n := newRecNet(t, 1+more.below(1<<more.below(18)))
		gap := more.below(1 + n.trip)
		var come, stray []int
		for num := range 70 {
			comes := num >= 65 || more.below(4) != 0
			if comes {
				come = append(come, num)
			} else {
				stray = append(stray, num)
			}
			n.send(num, comes)
			n.until(n.now + gap)
		}
		n.until(n.now + 4*n.trip + 5000)
		slices.Sort(n.acked)
		slices.Sort(n.lost)
		if !slices.Equal(n.acked, come) || !slices.Equal(n.lost, stray) || n.last.Flight != 0 {
			t.Fatalf("round trips of %d, each %d a packet: acknowledged %v, lost %v, want %v, %v", n.trip, gap, n.acked, n.lost, come, stray)
		}
	}
}

// Where nothing comes probe follows probe, until one comes through.
func TestP10ProbesUntilOneComes(t *testing.T) {
	for silent := range 8 {
		n := newRecNet(t, 5000)
		n.send(0, false)
		for num := 1; num <= silent+1; num++ {
			n.until(n.last.Timer)
			if !n.last.Probe || n.last.Probes != num {
				t.Fatalf("behind %d: %+v", num, n.last)
			}
			n.send(num, num > silent)
		}
		n.until(n.now + 50000)
		if n.last.Flight != 0 || n.last.Probes != 0 || !slices.Equal(n.acked, []int{silent + 1}) || !slices.Equal(n.lost, rising(silent+1, 0, 1)) {
			t.Errorf("acknowledged %v, lost %v, %+v", n.acked, n.lost, n.last)
		}
	}
}

// fencedRec is a run within a longer list, each of its Ranges within a longer one.
type fencedRec struct {
	list, whole, before []impl.RecOp
	ranges              []fenced[impl.Range]
}

func fenceRec(ops []impl.RecOp) fencedRec {
	var f fencedRec
	mark := impl.RecOp{Kind: 1, Time: 2, Num: 3, Size: 4, Delay: 5, Asks: true}
	f.whole = append(f.whole, mark)
	for _, op := range ops {
		ranges := amid(op.Ranges, impl.Range{Lo: 3, Hi: 4})
		op.Ranges = ranges.list
		f.ranges = append(f.ranges, ranges)
		f.whole = append(f.whole, op)
	}
	f.whole = append(f.whole, mark, mark)
	f.before = slices.Clone(f.whole)
	f.list = f.whole[1 : 1+len(ops)]
	return f
}

func (f fencedRec) check(t *testing.T) {
	t.Helper()
	for i, op := range f.whole {
		was := f.before[i]
		same := op.Kind == was.Kind && op.Time == was.Time && op.Num == was.Num && op.Size == was.Size && op.Delay == was.Delay && op.Asks == was.Asks && len(op.Ranges) == len(was.Ranges) && cap(op.Ranges) == cap(was.Ranges)
		if !same || len(op.Ranges) > 0 && &op.Ranges[0] != &was.Ranges[0] {
			t.Errorf("RecoveryRun wrote into its operations or behind their end")
		}
	}
	for _, ranges := range f.ranges {
		ranges.check(t, "RecoveryRun")
	}
}

func recRuns() [][]impl.RecOp {
	busy := []impl.RecOp{
		sentAt(0, 0), sentAt(0, 1), sentAt(0, 2), quietAt(0, 3), sentAt(0, 4), sentAt(5, 5), sentAt(6, 6), sentAt(7, 7), acksAt(100, 4, 5), acksAt(100, 1, 2, 6, 6), acksAt(100, 0, 7), acksAt(100, 9, 9), acksAt(100, 3, 2), {Kind: 9}, sentAt(100, 9), sentAt(100, 10), sentAt(100, 11), sentAt(100, 12),
		acksAt(150, 12, 12), timerAt(1100), timerAt(5000), sentAt(5000, 20), timerAt(90000), timerAt(900000), sentAt(1, 30), acksAt(900000, 0, 7, 9, 12, 20, 20),
	}
	var lossy []impl.RecOp
	for n := range 70 {
		lossy = append(lossy, sentAt(n, 2*n))
	}
	lossy = append(lossy, impl.RecOp{Kind: 2, Time: 100, Ranges: spacedRanges(60, 4)}, impl.RecOp{Kind: 2, Time: 200, Ranges: spacedRanges(64, 6)}, acksAt(300, 138, 138), timerAt(5000))
	return [][]impl.RecOp{nil, {sentAt(0, 0)}, {sentAt(0, 0), acksAt(1, 0, 0)}, busy, busy[:11], lossy}
}

func spoilNums(list []int) {
	whole := list[:cap(list)]
	for i := range whole {
		whole[i] = -77 - i
	}
}

// checkRecShares spoils the lists of the answers one by one, with the room behind them: those that are left must stay as they were.
func checkRecShares(t *testing.T, got, want []impl.RecObs) {
	t.Helper()
	for i := range got {
		spoilNums(got[i].Acked)
		if !slices.Equal(got[i].Lost, want[i].Lost) {
			t.Fatalf("answer %d: what is lost shares memory with what is acknowledged", i)
		}
		spoilNums(got[i].Lost)
		for j := i + 1; j < len(got); j++ {
			if !sameRecObs(got[j], want[j]) {
				t.Fatalf("the answers %d and %d share memory", i, j)
			}
		}
	}
}

func TestP1RecoveryMemory(t *testing.T) {
	for _, run := range recRuns() {
		arg := fenceRec(run)
		want, _ := impl.RecoveryRun(7, arg.list)
		got, _ := impl.RecoveryRun(7, arg.list)
		arg.check(t)
		checkRecShares(t, got, want)
		clear(got[:cap(got)])
		arg.check(t)
		checkRec(t, 7, arg.list, want)
		checkRecAsked(t, 7, arg.list)
	}
	for _, wrong := range wrongRanges() {
		arg := fenceRec([]impl.RecOp{sentAt(0, 0), {Kind: 2, Time: 1, Ranges: wrong}, {Kind: 1, Time: 1, Num: 1, Size: 1, Ranges: wrong}, {Kind: 3, Time: 1, Ranges: wrong}})
		checkRecAsked(t, 0, arg.list)
		arg.check(t)
	}
	long := fenceRec(make([]impl.RecOp, 401))
	refusesRec(t, 0, long.list, impl.ErrLong)
	refusesRec(t, -1, long.list[:3], impl.ErrBad)
	long.check(t)
}

// What stands behind the end of a list is not of it.
func TestP1NoRecoveryOperationBehindTheEndIsRun(t *testing.T) {
	ops := slices.Repeat([]impl.RecOp{timerAt(0)}, 401)
	checkRecAsked(t, 0, ops[:400])
	checkRecAsked(t, 0, ops[:0])
	two := []impl.RecOp{sentAt(0, 0), sentAt(0, 1)}
	checkRec(t, 0, two[:1], []impl.RecObs{impl.RecObs(stands(100, 999000))})
	checkRec(t, 0, []impl.RecOp{two[0], two[1], {Kind: 2, Time: 5, Ranges: pairs(0, 0, 9, 9)[:1]}}[1:], []impl.RecObs{impl.RecObs(stands(100, 999000)), impl.RecObs(stands(100, 999000).frame())})
	checkRecSteps(t, 0, []recStep{{sentAt(0, 0), stands(100, 999000)}, {impl.RecOp{Kind: 2, Time: 5, Ranges: pairs(0, 0, 9, 9)[:1]}, stands(0, -1).acked(0).rtt(5, 5, 5, 2)}})
}

// Nothing is kept from call to call: a run answers the same behind any other.
func TestP1RecoveryKeepsNothing(t *testing.T) {
	ask := func() string {
		var lines []string
		for _, ops := range recRuns() {
			got, code := impl.RecoveryRun(7, ops)
			lines = append(lines, fmt.Sprint(got, code))
		}
		return fmt.Sprint(lines)
	}
	first := ask()
	for range 5 {
		if again := ask(); again != first {
			t.Errorf("first %s, then %s", first, again)
		}
	}
}

func TestP1RecoveryTakesAnyIntegers(t *testing.T) {
	ahead := recRuns()[3][:9]
	behind := []impl.RecOp{timerAt(1100), sentAt(1100, 70), acksAt(1200, 6, 6), acksAt(1200, 70, 70), acksAt(1300, 0, 7), timerAt(99999)}
	for _, v := range oddInts() {
		mustEnd(t, fmt.Sprintf("RecoveryRun with %d", v), func() {
			for _, w := range []int{v, 0, 1, 7, -1, maxTime, math.MinInt, math.MaxInt} {
				for kind := range 5 {
					for _, op := range []impl.RecOp{
						{Kind: kind, Time: v, Num: w, Size: 9, Asks: true, Ranges: pairs(7, 7)}, {Kind: kind, Time: 100, Num: v, Size: w, Delay: w, Asks: true, Ranges: pairs(v, w)}, {Kind: kind, Time: 100, Num: 50, Size: v, Delay: v, Asks: true, Ranges: pairs(w, v)},
						{Kind: kind, Time: 100, Num: v, Size: 9, Delay: v, Ranges: pairs(6, 6)}, {Kind: kind, Time: 100, Num: 50, Size: 9, Ranges: pairs(0, 1, v, v)}, {Kind: v, Time: w, Num: w, Size: w, Delay: w, Ranges: pairs(7, 7)},
					} {
						checkRecAsked(t, 0, slices.Concat(ahead, []impl.RecOp{op}, behind))
						checkRecAsked(t, 9, slices.Concat([]impl.RecOp{op, op}, behind))
					}
				}
			}
			got, code := impl.RecoveryRun(v, ahead)
			if want := map[bool]int{true: impl.OK, false: impl.ErrBad}[isTime(v)]; code != want || (code != impl.OK) != (len(got) == 0) {
				t.Errorf("RecoveryRun(%d, ..) = %d answers, code %d", v, len(got), code)
			}
		})
	}
}
