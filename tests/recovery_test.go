package tests

import (
	"fmt"
	"math"
	"slices"
	"strings"
	"testing"

	"loop.example/g00012/impl"
)

// askedPacket is one that was sent; told if it was acknowledged or lost.
type askedPacket struct {
	num, size, time int
	asks, told      bool
}

// askedRecovery goes by the chapter, word by word: all packets are kept, and all is added up anew each time.
type askedRecovery struct {
	maxDelay, last, largest, probes int
	packets                         []askedPacket
	rtt                             impl.Rtt
}

func newAskedRecovery(maxDelay int) *askedRecovery {
	return &askedRecovery{maxDelay: maxDelay, largest: -1}
}

func (a *askedRecovery) flies(p askedPacket) bool { return p.asks && !p.told }

func (a *askedRecovery) flight() int {
	sum := 0
	for _, p := range a.packets {
		if a.flies(p) {
			sum += p.size
		}
	}
	return sum
}

// lossTime is the least of all, -1 if there is none.
func (a *askedRecovery) lossTime() int {
	least := -1
	for _, p := range a.packets {
		if a.flies(p) && p.num < a.largest && (least == -1 || p.time < least) {
			least = p.time
		}
	}
	if least == -1 {
		return -1
	}
	return least + lossDelayAsked(a.rtt)
}

func (a *askedRecovery) timer() int {
	if at := a.lossTime(); at != -1 {
		return at
	}
	newest := -1
	for _, p := range a.packets {
		if a.flies(p) {
			newest = max(newest, p.time)
		}
	}
	if newest == -1 {
		return -1
	}
	return newest + probeDelayAsked(a.rtt, a.maxDelay, a.probes)
}

func (a *askedRecovery) lose(now int) []int {
	var lost []int
	for i, p := range a.packets {
		if !a.flies(p) || p.num >= a.largest {
			continue
		}
		if p.num+3 <= a.largest || p.time+lossDelayAsked(a.rtt) <= now {
			a.packets[i].told = true
			lost = append(lost, p.num)
		}
	}
	return lost
}

// sentAll tells whether each number of the range was sent.
func (a *askedRecovery) sentAll(r impl.Range) bool {
	count := 0
	for _, p := range a.packets {
		if inRange(p.num, r.Lo, r.Hi) {
			count++
		}
	}
	return count == r.Hi-r.Lo+1
}

func (a *askedRecovery) ackCode(op impl.RecOp) int {
	if len(op.Ranges) == 0 || !rangesOKAsked(op.Ranges) || !isTime(op.Delay) {
		return impl.ErrBad
	}
	for _, r := range op.Ranges {
		if !a.sentAll(r) {
			return impl.ErrFrame
		}
	}
	return impl.OK
}

func (a *askedRecovery) ack(op impl.RecOp) (acked, lost []int) {
	greatest := 0
	for _, r := range op.Ranges {
		greatest = max(greatest, r.Hi)
		for i, p := range a.packets {
			if a.flies(p) && inRange(p.num, r.Lo, r.Hi) {
				a.packets[i].told = true
				acked = append(acked, p.num)
			}
		}
	}
	for _, p := range a.packets {
		if p.num == greatest && slices.Contains(acked, greatest) {
			a.rtt = rttAsked(a.rtt, max(1, op.Time-p.time), op.Delay, a.maxDelay)
		}
	}
	if greatest > a.largest {
		a.largest = greatest
	}
	if len(acked) != 0 {
		a.probes = 0
	}
	return acked, a.lose(op.Time)
}

func (a *askedRecovery) code(op impl.RecOp) int {
	if !isTime(op.Time) || op.Time < a.last {
		return impl.ErrBad
	}
	switch op.Kind {
	case 1:
		above := len(a.packets) == 0 || op.Num > a.packets[len(a.packets)-1].num
		if !inRange(op.Num, 0, maxVar) || !above || !inRange(op.Size, 1, 2000) {
			return impl.ErrBad
		}
		return impl.OK
	case 2:
		return a.ackCode(op)
	case 3:
		return impl.OK
	}
	return impl.ErrBad
}

func (a *askedRecovery) run(op impl.RecOp) impl.RecObs {
	obs := impl.RecObs{Code: a.code(op)}
	if obs.Code == impl.OK {
		a.last = op.Time
		timer := a.timer()
		switch {
		case op.Kind == 1:
			a.packets = append(a.packets, askedPacket{op.Num, op.Size, op.Time, op.Asks, false})
		case op.Kind == 2:
			obs.Acked, obs.Lost = a.ack(op)
		case timer == -1 || timer > op.Time:
		case a.lossTime() != -1:
			obs.Lost = a.lose(op.Time)
		default:
			obs.Probe = true
			a.probes++
		}
	}
	obs.Flight, obs.Timer, obs.Probes, obs.Rtt = a.flight(), a.timer(), a.probes, a.rtt
	return obs
}

func sentAt(time, num int) impl.RecOp {
	return impl.RecOp{Kind: 1, Time: time, Num: num, Size: 100, Asks: true}
}

func sizedAt(time, num, size int) impl.RecOp {
	return impl.RecOp{Kind: 1, Time: time, Num: num, Size: size, Asks: true}
}

// quietAt is a packet that does not ask.
func quietAt(time, num int) impl.RecOp {
	return impl.RecOp{Kind: 1, Time: time, Num: num, Size: 100}
}

func acksAt(time int, ends ...int) impl.RecOp {
	return impl.RecOp{Kind: 2, Time: time, Ranges: pairs(ends...)}
}

func waitedAt(time, delay int, ends ...int) impl.RecOp {
	return impl.RecOp{Kind: 2, Time: time, Delay: delay, Ranges: pairs(ends...)}
}

func timerAt(time int) impl.RecOp { return impl.RecOp{Kind: 3, Time: time} }

// recWant is what is to be answered, put together bit by bit.
type recWant impl.RecObs

func stands(flight, timer int) recWant { return recWant{Flight: flight, Timer: timer} }

func (w recWant) acked(nums ...int) recWant { w.Acked = nums; return w }

func (w recWant) lost(nums ...int) recWant { w.Lost = nums; return w }

func (w recWant) probes(count int) recWant { w.Probes = count; return w }

func (w recWant) probed(count int) recWant { w.Probe = true; return w.probes(count) }

func (w recWant) rtt(latest, least, smooth, vary int) recWant {
	w.Rtt = trips(latest, least, smooth, vary)
	return w
}

func (w recWant) code(code int) recWant { w.Code = code; return w }

func (w recWant) bad() recWant { return w.code(impl.ErrBad) }

func (w recWant) frame() recWant { return w.code(impl.ErrFrame) }

// recStep is an operation and what is to be answered to it.
type recStep struct {
	op   impl.RecOp
	want recWant
}

func sameRecObs(a, b impl.RecObs) bool {
	return a.Code == b.Code && slices.Equal(a.Acked, b.Acked) && slices.Equal(a.Lost, b.Lost) && a.Flight == b.Flight && a.Timer == b.Timer && a.Probes == b.Probes && a.Probe == b.Probe && a.Rtt == b.Rtt
}

func toldRecOps(ops []impl.RecOp) string {
	var lines []string
	for _, op := range ops {
		lines = append(lines, fmt.Sprintf("Kind %d Time %d Num %d Size %d Delay %d Asks %v Ranges %s", op.Kind, op.Time, op.Num, op.Size, op.Delay, op.Asks, toldRanges(op.Ranges)))
	}
	return strings.Join(lines, "\n  ")
}

func checkRec(t *testing.T, maxDelay int, ops []impl.RecOp, want []impl.RecObs) {
	t.Helper()
	got, code := impl.RecoveryRun(maxDelay, ops)
	if code != impl.OK || len(got) != len(want) {
		t.Errorf("RecoveryRun(%d, %d operations) = %d answers, code %d", maxDelay, len(ops), len(got), code)
		return
	}
	for i := range want {
		if !sameRecObs(got[i], want[i]) {
			t.Errorf("RecoveryRun(%d), answer %d = %+v, want %+v, of\n  %s", maxDelay, i, got[i], want[i], toldRecOps(ops[:i+1]))
			return
		}
	}
}

func checkRecAsked(t *testing.T, maxDelay int, ops []impl.RecOp) {
	t.Helper()
	a := newAskedRecovery(maxDelay)
	var want []impl.RecObs
	for _, op := range ops {
		want = append(want, a.run(op))
	}
	checkRec(t, maxDelay, ops, want)
}

func refusesRec(t *testing.T, maxDelay int, ops []impl.RecOp, code int) {
	t.Helper()
	if got, gotCode := impl.RecoveryRun(maxDelay, ops); gotCode != code || len(got) != 0 {
		t.Errorf("RecoveryRun(%d, %d operations) = %d answers, code %d, want code %d alone", maxDelay, len(ops), len(got), gotCode, code)
	}
}

// checkRecSteps runs each beginning of the steps too: no answer hangs on what comes behind it.
func checkRecSteps(t *testing.T, maxDelay int, steps []recStep) {
	t.Helper()
	var ops []impl.RecOp
	var want []impl.RecObs
	for _, s := range steps {
		ops = append(ops, s.op)
		want = append(want, impl.RecObs(s.want))
		checkRec(t, maxDelay, ops, want)
	}
	checkRecAsked(t, maxDelay, ops)
}

// Before a round trip was measured a probe is due 999000 behind the last packet; 374625 behind it is lost.
func TestP10InFlight(t *testing.T) {
	checkRecSteps(t, 0, []recStep{
		{sizedAt(0, 0, 1), stands(1, 999000)}, {sizedAt(7, 1, 2000), stands(2001, 999007)}, {quietAt(9, 2), stands(2001, 999007)}, {sizedAt(9, 5, 40), stands(2041, 999009)}, {quietAt(30, 6), stands(2041, 999009)},
		{acksAt(8009, 5, 5), stands(0, -1).acked(5).lost(0, 1).rtt(8000, 8000, 8000, 4000)},
	})
	checkRecSteps(t, 0, []recStep{
		{sizedAt(0, 0, 10), stands(10, 999000)}, {sizedAt(10, 1, 200), stands(210, 999010)}, {sizedAt(20, 2, 300), stands(510, 999020)}, {sizedAt(30, 3, 400), stands(910, 999030)}, {sizedAt(40, 4, 500), stands(1410, 999040)},
		// The first one lies three below, the next ones are lost 9000 behind their sending.
		{acksAt(8030, 3, 3), stands(1000, 9010).acked(3).lost(0).rtt(8000, 8000, 8000, 4000)},
		{timerAt(9009), stands(1000, 9010).rtt(8000, 8000, 8000, 4000)}, {timerAt(9010), stands(800, 9020).lost(1).rtt(8000, 8000, 8000, 4000)}, {timerAt(9020), stands(500, 24040).lost(2).rtt(8000, 8000, 8000, 4000)},
		// All that were lost are acknowledged late: they were told.
		{acksAt(9020, 0, 4), stands(0, -1).acked(4).rtt(8980, 8000, 8122, 3245)}, {acksAt(9020, 0, 4), stands(0, -1).rtt(8980, 8000, 8122, 3245)}, {timerAt(999999), stands(0, -1).rtt(8980, 8000, 8122, 3245)},
	})
}

func TestP10NothingSent(t *testing.T) {
	none := stands(0, -1)
	checkRecSteps(t, 0, []recStep{
		{timerAt(0), none}, {timerAt(5), none}, {acksAt(5, 0, 0), none.frame()}, {acksAt(5, 0, maxVar), none.frame()}, {acksAt(5, maxVar, maxVar), none.frame()}, {acksAt(5), none.bad()}, {quietAt(5, 0), none}, {timerAt(maxTime), none}, {acksAt(maxTime, 0, 0), none}, {acksAt(maxTime, 1, 1), none.frame()},
	})
	for _, maxDelay := range []int{0, 1, maxTime} {
		checkRec(t, maxDelay, nil, nil)
		checkRec(t, maxDelay, []impl.RecOp{}, nil)
	}
}

func TestRecoverySent(t *testing.T) {
	one := stands(100, 999000)
	checkRecSteps(t, 0, []recStep{
		{sentAt(0, -1), stands(0, -1).bad()}, {sentAt(0, maxVar+1), stands(0, -1).bad()}, {sizedAt(0, 0, 0), stands(0, -1).bad()}, {sizedAt(0, 0, 2001), stands(0, -1).bad()}, {sizedAt(0, 0, -1), stands(0, -1).bad()},
		// What was refused was not sent.
		{acksAt(0, 0, 0), stands(0, -1).frame()}, {sentAt(0, 0), one}, {sentAt(0, 0), one.bad()}, {quietAt(0, 0), one.bad()}, {sentAt(0, -1), one.bad()}, {sentAt(0, 7), stands(200, 999000)}, {sentAt(0, 7), stands(200, 999000).bad()}, {sentAt(0, 6), stands(200, 999000).bad()}, {sentAt(0, 1), stands(200, 999000).bad()},
		{quietAt(1, 8), stands(200, 999000)}, {sentAt(1, 8), stands(200, 999000).bad()}, {quietAt(1, 8), stands(200, 999000).bad()}, {sizedAt(2, 9, 2001), stands(200, 999000).bad()}, {sizedAt(2, 9, 2000), stands(2200, 999002)},
		{sizedAt(2, maxVar-1, 1), stands(2201, 999002)}, {sentAt(2, maxVar+1), stands(2201, 999002).bad()}, {sentAt(2, math.MaxInt), stands(2201, 999002).bad()}, {sentAt(2, math.MinInt), stands(2201, 999002).bad()}, {sizedAt(3, maxVar, 1), stands(2202, 999003)}, {sentAt(3, maxVar), stands(2202, 999003).bad()}, {sentAt(3, maxVar+1), stands(2202, 999003).bad()}, {sentAt(3, 9), stands(2202, 999003).bad()},
		{acksAt(3, maxVar, maxVar), stands(1, 1002).acked(maxVar).lost(0, 7, 9).rtt(1, 1, 1, 0)}, {acksAt(4, 0, 0, 7, 9, maxVar-1, maxVar), stands(0, -1).acked(maxVar-1).rtt(1, 1, 1, 0)},
	})
	for _, size := range []int{0, -1, 2001, math.MinInt, math.MaxInt} {
		// Size is asked of those that do not ask, too.
		checkRecSteps(t, 0, []recStep{{impl.RecOp{Kind: 1, Num: 3, Size: size}, stands(0, -1).bad()}, {sizedAt(0, 3, size), stands(0, -1).bad()}, {sentAt(0, 2), one}})
	}
	for _, size := range []int{1, 2, 1999, 2000} {
		checkRecSteps(t, 0, []recStep{{impl.RecOp{Kind: 1, Num: 3, Size: size}, stands(0, -1)}, {sizedAt(0, 4, size), stands(size, 999000)}})
	}
}

func TestRecoveryRangesThatWereNotSent(t *testing.T) {
	four := stands(400, 999000)
	steps := []recStep{{sentAt(0, 2), stands(100, 999000)}, {sentAt(0, 3), stands(200, 999000)}, {sentAt(0, 5), stands(300, 999000)}, {quietAt(0, 6), stands(300, 999000)}, {sentAt(0, 7), four}}
	for _, wrong := range [][]impl.Range{
		pairs(0, 0), pairs(1, 1), pairs(4, 4), pairs(8, 8), pairs(9, 9), pairs(maxVar, maxVar), pairs(0, maxVar), pairs(1, 2), pairs(1, 3), pairs(2, 4), pairs(3, 4), pairs(3, 5), pairs(2, 5), pairs(2, 7), pairs(4, 5), pairs(5, 8), pairs(7, 8), pairs(6, maxVar),
		pairs(0, 0, 2, 3), pairs(2, 3, 5, 8), pairs(2, 3, 9, 9), pairs(0, 0, 7, 7), pairs(2, 2, 4, 7), pairs(2, 3, 5, 5, 7, 8), pairs(2, 3, 5, 7, 100, 200),
	} {
		steps = append(steps, recStep{acksAt(9, wrong[0].Lo, wrong[0].Hi), four.frame()})
		steps[len(steps)-1].op.Ranges = wrong
	}
	for _, wrong := range append(wrongRanges(), nil, []impl.Range{}, pairs(2, 3, 4, 4), pairs(3, 2), pairs(2, 2, 3, 3), pairs(5, 5, 2, 2), pairs(2, 3, 2, 3), pairs(-1, 2), pairs(7, maxVar+1)) {
		steps = append(steps, recStep{impl.RecOp{Kind: 2, Time: 9, Ranges: wrong}, four.bad()})
	}
	checkRecSteps(t, 0, append(steps, recStep{acksAt(9, 2, 3, 5, 7), stands(0, -1).acked(2, 3, 5, 7).rtt(9, 9, 9, 4)}))
	checkRecSteps(t, 0, append(steps[:5:5], recStep{acksAt(9, 2, 2, 5, 6), stands(100, 999000).acked(2, 5).lost(3)}))
}

// The greatest number may be of a packet that does not ask: it is the largest, but measures nothing.
func TestP10LargestThatDoesNotAsk(t *testing.T) {
	checkRecSteps(t, 0, []recStep{
		{sentAt(0, 0), stands(100, 999000)}, {sentAt(10, 1), stands(200, 999010)}, {sentAt(20, 2), stands(300, 999020)}, {quietAt(30, 3), stands(300, 999020)}, {sentAt(40, 4), stands(400, 999040)},
		{acksAt(50, 3, 3), stands(300, 374635).lost(0)}, {acksAt(60, 2, 3), stands(200, 374635).acked(2)}, {acksAt(70, 0, 0), stands(200, 374635)}, {timerAt(374634), stands(200, 374635)}, {timerAt(374635), stands(100, 999040).lost(1)},
		{acksAt(374640, 4, 4), stands(0, -1).acked(4).rtt(374600, 374600, 374600, 187300)},
	})
	checkRecSteps(t, 0, []recStep{
		{sentAt(0, 0), stands(100, 999000)}, {quietAt(0, 1), stands(100, 999000)}, {acksAt(100, 0, 1), stands(0, -1).acked(0)}, {sentAt(100, 2), stands(100, 999100)}, {acksAt(200, 0, 2), stands(0, -1).acked(2).rtt(100, 100, 100, 50)},
	})
}

// An acknowledgement of what was told ahead measures nothing; the largest is never less than it was.
func TestP10LargestStays(t *testing.T) {
	known := func(flight, timer int) recWant { return stands(flight, timer).rtt(8000, 8000, 8000, 4000) }
	ahead := []recStep{
		{sentAt(0, 0), stands(100, 999000)}, {sentAt(0, 1), stands(200, 999000)}, {sentAt(0, 2), stands(300, 999000)}, {sentAt(0, 3), stands(400, 999000)}, {sentAt(0, 4), stands(500, 999000)}, {sentAt(100, 5), stands(600, 999100)},
		{acksAt(8000, 3, 3), known(400, 9000).acked(3).lost(0)},
	}
	for _, steps := range [][]recStep{
		// It was acknowledged, or lost, ahead.
		{{acksAt(8900, 3, 3), known(400, 9000)}, {acksAt(8900, 0, 0), known(400, 9000)}, {acksAt(8999, 2, 3), known(300, 9000).acked(2)}, {acksAt(9000, 0, 0), known(200, 24100).lost(1)}, {acksAt(9000, 1, 1), known(200, 24100)}},
		// It is in flight below the largest: the round trip is measured.
		{{acksAt(8008, 1, 1), known(300, 9009).acked(1).rtt(8008, 8000, 8001, 3002)}, {acksAt(8008, 2, 2), known(200, 17113).acked(2).rtt(8008, 8000, 8001, 2253)}},
		{{acksAt(8000, 2, 2), known(300, 9000).acked(2).rtt(8000, 8000, 8000, 3000)}, {acksAt(8000, 4, 4), known(100, 17100).acked(4).lost(1).rtt(8000, 8000, 8000, 2250)}},
		// A greater one is acknowledged, below that one others.
		{{acksAt(8000, 1, 1, 4, 4), known(200, 9000).acked(1, 4).rtt(8000, 8000, 8000, 3000)}, {acksAt(8000, 0, 5), stands(0, -1).acked(2, 5).rtt(7900, 7900, 7987, 2275)}},
	} {
		checkRecSteps(t, 0, slices.Concat(ahead, steps))
	}
}

func TestP10PacketsBelowTheLargest(t *testing.T) {
	for _, c := range []struct {
		first, largest int
		lost           bool
	}{{0, 1, false}, {0, 2, false}, {0, 3, true}, {0, 4, true}, {5, 7, false}, {5, 8, true}, {0, maxVar, true}, {maxVar - 3, maxVar, true}, {maxVar - 2, maxVar, false}} {
		want := stands(100, 1000)
		if c.lost {
			want = stands(0, -1).lost(c.first)
		}
		want = want.acked(c.largest).rtt(10, 10, 10, 5)
		checkRecSteps(t, 0, []recStep{{sentAt(0, c.first), stands(100, 999000)}, {sentAt(0, c.largest), stands(200, 999000)}, {acksAt(10, c.largest, c.largest), want}})
	}
}

func TestP10SentLongAgo(t *testing.T) {
	// The round trip of the second is 8000 when it is acknowledged, the delay 9000.
	for _, c := range []struct {
		ahead int
		lost  bool
	}{{0, false}, {998, false}, {999, false}, {1000, true}, {1001, true}} {
		want := stands(100, 9000)
		if c.lost {
			want = stands(0, -1).lost(0)
		}
		want = want.acked(1).rtt(8000, 8000, 8000, 4000)
		checkRecSteps(t, 0, []recStep{{sentAt(0, 0), stands(100, 999000)}, {sentAt(c.ahead, 1), stands(200, 999000+c.ahead)}, {acksAt(8000+c.ahead, 1, 1), want}})
	}
	// At the least delay.
	known := func(flight, timer int) recWant { return stands(flight, timer).rtt(80, 80, 80, 40) }
	checkRecSteps(t, 0, []recStep{
		{sentAt(0, 0), stands(100, 999000)}, {sentAt(1, 1), stands(200, 999001)}, {sentAt(2, 2), stands(300, 999002)}, {acksAt(82, 2, 2), known(200, 1000).acked(2)}, {timerAt(999), known(200, 1000)}, {acksAt(1000, 2, 2), known(100, 1001).lost(0)}, {timerAt(1001), known(0, -1).lost(1)},
	})
	// Two of one time are lost together.
	checkRecSteps(t, 0, []recStep{
		{sentAt(0, 0), stands(100, 999000)}, {sentAt(0, 1), stands(200, 999000)}, {sentAt(2, 2), stands(300, 999002)}, {acksAt(82, 2, 2), known(200, 1000).acked(2)}, {timerAt(1000), known(0, -1).lost(0, 1)},
	})
	// Late, all that is due is lost at once.
	checkRecSteps(t, 0, []recStep{
		{sentAt(0, 0), stands(100, 999000)}, {sentAt(1, 1), stands(200, 999001)}, {sentAt(2, 2), stands(300, 999002)}, {acksAt(82, 2, 2), known(200, 1000).acked(2)}, {timerAt(5000), known(0, -1).lost(0, 1)},
	})
}

// The delay is that of the round trip which was measured by this very acknowledgement.
func TestP10LossesByTheNewRoundTrip(t *testing.T) {
	checkRecSteps(t, 0, []recStep{
		{sentAt(0, 0), stands(100, 999000)}, {acksAt(80, 0, 0), stands(0, -1).acked(0).rtt(80, 80, 80, 40)}, {sentAt(100, 1), stands(100, 1180).rtt(80, 80, 80, 40)}, {sentAt(200, 2), stands(200, 1280).rtt(80, 80, 80, 40)},
		// By the old one the first were lost 1000 behind its sending.
		{acksAt(8200, 2, 2), stands(100, 9100).acked(2).rtt(8000, 80, 1070, 2010)}, {timerAt(9100), stands(0, -1).lost(1).rtt(8000, 80, 1070, 2010)},
	})
}

func TestP10Probes(t *testing.T) {
	checkRecSteps(t, 0, []recStep{
		{sentAt(5, 0), stands(100, 999005)}, {timerAt(999004), stands(100, 999005)}, {timerAt(999005), stands(100, 1998005).probed(1)}, {timerAt(999005), stands(100, 1998005).probes(1)}, {timerAt(1998004), stands(100, 1998005).probes(1)}, {timerAt(1998005), stands(100, 3996005).probed(2)}, {timerAt(3996006), stands(100, 7992005).probed(3)},
		// The time is that of the last one in flight, those that do not ask left aside.
		{quietAt(3996010, 1), stands(100, 7992005).probes(3)}, {sentAt(3996020, 2), stands(200, 11988020).probes(3)},
		// An acknowledgement of none in flight changes nothing, one of another does.
		{acksAt(3996030, 1, 1), stands(100, 11988020).lost(0).probes(3)}, {acksAt(3996040, 0, 0), stands(100, 11988020).probes(3)}, {acksAt(3996040, 0, 3), stands(100, 11988020).probes(3).frame()}, {acksAt(3996120, 2, 2), stands(0, -1).acked(2).rtt(100, 100, 100, 50)}, {sentAt(3996200, 3), stands(100, 3997300).rtt(100, 100, 100, 50)},
		{timerAt(3997300), stands(100, 3998400).probed(1).rtt(100, 100, 100, 50)},
	})
	trip := func(flight, timer int) recWant { return stands(flight, timer).rtt(2048000, 2048000, 2048000, 1024000) }
	checkRecSteps(t, 25000, []recStep{
		{sentAt(0, 0), stands(100, 1024000)}, {timerAt(1024000), stands(100, 2048000).probed(1)}, {sentAt(1024000, 1), stands(200, 3072000).probes(1)}, {timerAt(3072000), stands(200, 5120000).probed(2)},
		{acksAt(3072000, 1, 1), trip(0, -1).acked(1).lost(0)}, {sentAt(3072000, 2), trip(100, 9241000)}, {timerAt(9241000), trip(100, 15410000).probed(1)},
	})
	// While none below the largest is in flight there is no loss time, and there is one behind the acknowledgement of the last.
	checkRecSteps(t, 0, []recStep{
		{quietAt(0, 0), stands(0, -1)}, {sentAt(10, 1), stands(100, 999010)}, {sentAt(500, 2), stands(200, 999500)}, {sentAt(600, 3), stands(300, 999600)}, {acksAt(700, 1, 1), stands(200, 2670).acked(1).rtt(690, 690, 690, 345)},
		{acksAt(700, 3, 3), stands(100, 1500).acked(3).rtt(100, 100, 616, 406)}, {acksAt(700, 2, 2), stands(0, -1).acked(2).rtt(200, 100, 564, 408)},
	})
}

func TestRecoveryTimers(t *testing.T) {
	// A timer above the greatest time never goes off.
	checkRecSteps(t, 0, []recStep{{sentAt(maxTime, 0), stands(100, maxTime+999000)}, {timerAt(maxTime), stands(100, maxTime+999000)}, {sentAt(maxTime, 1), stands(200, maxTime+999000)}, {acksAt(maxTime, 1, 1), stands(100, maxTime+1000).acked(1).rtt(1, 1, 1, 0)}, {timerAt(maxTime), stands(100, maxTime+1000).rtt(1, 1, 1, 0)}})
	checkRecSteps(t, 0, []recStep{{sentAt(maxTime-999000, 0), stands(100, maxTime)}, {timerAt(maxTime - 1), stands(100, maxTime)}, {timerAt(maxTime), stands(100, maxTime+999000).probed(1)}, {timerAt(maxTime), stands(100, maxTime+999000).probes(1)}})
	checkRecSteps(t, maxTime, []recStep{{sentAt(0, 0), stands(100, maxTime)}, {sentAt(1, 1), stands(200, maxTime+1)}, {timerAt(maxTime), stands(200, maxTime+1)}})
	checkRecSteps(t, maxTime, []recStep{{sentAt(0, 0), stands(100, maxTime)}, {timerAt(maxTime), stands(100, maxTime).probed(1)}, {timerAt(maxTime), stands(100, maxTime).probed(2)}})
	// The longest round trip there is.
	checkRecSteps(t, 0, []recStep{
		{sentAt(0, 0), stands(100, 999000)}, {sentAt(0, 1), stands(200, 999000)}, {acksAt(maxTime, 1, 1), stands(100, 1125000000000).acked(1).rtt(maxTime, maxTime, maxTime, maxTime/2)}, {timerAt(maxTime), stands(100, 1125000000000).rtt(maxTime, maxTime, maxTime, maxTime/2)},
	})
}

// So often as a run lets: each probe is due twice as late as the one ahead, until that is never.
func TestRecoveryManyProbes(t *testing.T) {
	steps := []recStep{{sentAt(0, 0), stands(100, 999000)}}
	for count := range 25 {
		at := min(999000<<count, maxTime)
		steps = append(steps, recStep{timerAt(at), stands(100, min(2*at, maxTime)).probed(count + 1)})
	}
	checkRecSteps(t, 0, steps)
}

func TestRecoveryRoundTrips(t *testing.T) {
	// Of 0 it counts as 1.
	checkRecSteps(t, 0, []recStep{{sentAt(5, 0), stands(100, 999005)}, {acksAt(5, 0, 0), stands(0, -1).acked(0).rtt(1, 1, 1, 0)}, {sentAt(5, 1), stands(100, 1006).rtt(1, 1, 1, 0)}, {acksAt(6, 1, 1), stands(0, -1).acked(1).rtt(1, 1, 1, 0)}, {sentAt(6, 2), stands(100, 1007).rtt(1, 1, 1, 0)}, {acksAt(8, 2, 2), stands(0, -1).acked(2).rtt(2, 1, 1, 0)}})
	// The delay counts up to the greatest one, not in the first round trip.
	first := []recStep{{sentAt(0, 0), stands(100, 999100)}, {waitedAt(8000, 500, 0, 0), stands(0, -1).acked(0).rtt(8000, 8000, 8000, 4000)}, {sentAt(10000, 1), stands(100, 34100).rtt(8000, 8000, 8000, 4000)}}
	for _, c := range []struct {
		delay int
		want  recWant
	}{
		{0, stands(0, -1).rtt(16000, 8000, 9000, 5000)}, {99, stands(0, -1).rtt(16000, 8000, 8987, 4975)}, {100, stands(0, -1).rtt(16000, 8000, 8987, 4975)}, {101, stands(0, -1).rtt(16000, 8000, 8987, 4975)}, {50, stands(0, -1).rtt(16000, 8000, 8993, 4987)}, {maxTime, stands(0, -1).rtt(16000, 8000, 8987, 4975)},
	} {
		checkRecSteps(t, 100, append(first[:3:3], recStep{waitedAt(26000, c.delay, 1, 1), c.want.acked(1)}))
	}
	// It is that of the greatest number, whatever others come with it.
	checkRecSteps(t, 0, []recStep{{sentAt(0, 0), stands(100, 999000)}, {sentAt(300, 1), stands(200, 999300)}, {quietAt(350, 2), stands(200, 999300)}, {sentAt(400, 3), stands(300, 999400)}, {acksAt(500, 0, 1), stands(100, 400+200+1000).acked(0, 1).rtt(200, 200, 200, 100)}, {acksAt(700, 0, 3), stands(0, -1).acked(3).rtt(300, 200, 212, 100)}})
}

func TestRecoveryDelays(t *testing.T) {
	one := stands(100, 999000)
	for _, delay := range []int{-1, maxTime + 1, math.MinInt, math.MaxInt} {
		checkRecSteps(t, 0, []recStep{{sentAt(0, 0), one}, {waitedAt(7, delay, 0, 0), one.bad()}, {waitedAt(7, delay, 1, 1), one.bad()}, {waitedAt(7, delay), one.bad()}, {waitedAt(7, 0, 0, 0), stands(0, -1).acked(0).rtt(7, 7, 7, 3)}})
	}
	for _, delay := range []int{0, 1, maxTime - 1, maxTime} {
		checkRecSteps(t, 0, []recStep{{sentAt(0, 0), one}, {waitedAt(7, delay, 1, 1), one.frame()}, {waitedAt(7, delay, 0, 0), stands(0, -1).acked(0).rtt(7, 7, 7, 3)}})
	}
}

// Times may stand still, but not go back; a time that was refused does not count.
func TestRecoveryTimes(t *testing.T) {
	one := stands(100, 999050)
	steps := []recStep{{sentAt(50, 3), one}, {timerAt(50), one}}
	for _, refused := range []impl.RecOp{
		timerAt(49), timerAt(0), timerAt(-1), timerAt(maxTime + 1), timerAt(math.MinInt), timerAt(math.MaxInt), sentAt(49, 4), sentAt(-1, 4), sentAt(maxTime+1, 4), acksAt(49, 3, 3), acksAt(0, 3, 3), acksAt(-1, 3, 3), acksAt(maxTime+1, 3, 3), acksAt(49, 9, 9),
		// Of a later time, refused for another fault.
		sentAt(700, 3), sentAt(700, 2), sizedAt(700, 4, 0), sizedAt(maxTime, 4, 2001), acksAt(800), acksAt(800, 3, 2), waitedAt(800, -1, 3, 3), {Kind: 4, Time: 900}, {Kind: 0, Time: maxTime}, {Kind: -1, Time: 900},
	} {
		steps = append(steps, recStep{refused, one.bad()}, recStep{timerAt(50), one})
	}
	steps = append(steps, recStep{acksAt(maxTime, 4, 4), one.frame()}, recStep{acksAt(900, 2, 3), one.frame()}, recStep{timerAt(50), one}, recStep{timerAt(51), one}, recStep{timerAt(50), one.bad()})
	steps = append(steps, recStep{acksAt(51, 3, 3), stands(0, -1).acked(3).rtt(1, 1, 1, 0)}, recStep{sentAt(50, 4), stands(0, -1).rtt(1, 1, 1, 0).bad()}, recStep{sentAt(51, 4), stands(100, 1052).rtt(1, 1, 1, 0)})
	// Each kind without a code counts.
	steps = append(steps, recStep{sentAt(60, 5), stands(200, 1061).rtt(1, 1, 1, 0)}, recStep{timerAt(59), stands(200, 1061).rtt(1, 1, 1, 0).bad()}, recStep{acksAt(70, 3, 3), stands(200, 1061).rtt(1, 1, 1, 0)}, recStep{timerAt(69), stands(200, 1061).rtt(1, 1, 1, 0).bad()}, recStep{timerAt(80), stands(200, 1061).rtt(1, 1, 1, 0)}, recStep{sentAt(79, 6), stands(200, 1061).rtt(1, 1, 1, 0).bad()}, recStep{quietAt(90, 6), stands(200, 1061).rtt(1, 1, 1, 0)}, recStep{timerAt(89), stands(200, 1061).rtt(1, 1, 1, 0).bad()})
	checkRecSteps(t, 0, steps)
}

func TestRecoveryOtherKinds(t *testing.T) {
	for _, kind := range []int{0, -1, 4, 5, 256, 257, 258, 259, math.MinInt, math.MaxInt} {
		wrong := impl.RecOp{Kind: kind, Time: 2000000, Num: 9, Size: 9, Asks: true, Ranges: pairs(0, 0)}
		checkRecSteps(t, 0, []recStep{
			{wrong, stands(0, -1).bad()}, {sentAt(0, 0), stands(100, 999000)}, {wrong, stands(100, 999000).bad()}, {timerAt(999000), stands(100, 1998000).probed(1)}, {wrong, stands(100, 1998000).probes(1).bad()}, {sentAt(999000, 1), stands(200, 2997000).probes(1)},
			{acksAt(999008, 1, 1), stands(0, -1).acked(1).lost(0).rtt(8, 8, 8, 4)}, {wrong, stands(0, -1).rtt(8, 8, 8, 4).bad()},
		})
	}
}

// Of two faults the one that the chapter names first is told: a number that was not sent is the last.
func TestRecoveryOrderOfCodes(t *testing.T) {
	one := stands(100, 999050)
	steps := []recStep{{sentAt(50, 3), one}}
	for _, op := range []impl.RecOp{acksAt(49, 9, 9), acksAt(-1, 9, 9), acksAt(maxTime+1, 9, 9), waitedAt(50, -1, 9, 9), waitedAt(50, maxTime+1, 9, 9), acksAt(50, 9, 8), acksAt(50, 9, 9, 10, 10), acksAt(50, 3, 3, 4, 9), acksAt(50, 3, maxVar+1), acksAt(50, -1, 3), {Kind: 2, Time: 50, Ranges: spacedRanges(65, 3)}} {
		steps = append(steps, recStep{op, one.bad()})
	}
	for _, op := range []impl.RecOp{acksAt(50, 9, 9), acksAt(50, 3, 4), acksAt(50, 2, 3), acksAt(50, 3, maxVar), {Kind: 2, Time: 50, Ranges: spacedRanges(64, 3)}} {
		steps = append(steps, recStep{op, one.frame()})
	}
	checkRecSteps(t, 0, steps)
}

// What an operation doesn't ask for is not looked at.
func TestRecoveryFieldsThatAreNotAsked(t *testing.T) {
	for _, v := range append(rttEdges(), 2001, maxVar, maxVar+1, math.MinInt, math.MaxInt) {
		for _, ranges := range [][]impl.Range{nil, pairs(0, 0), pairs(9, 2), pairs(v, v)} {
			checkRecSteps(t, 0, []recStep{
				{impl.RecOp{Kind: 1, Num: 0, Size: 100, Delay: v, Asks: true, Ranges: ranges}, stands(100, 999000)}, {impl.RecOp{Kind: 1, Num: 1, Size: 100, Delay: v, Ranges: ranges}, stands(100, 999000)},
				{impl.RecOp{Kind: 3, Time: 5, Num: v, Size: v, Delay: v, Asks: true, Ranges: ranges}, stands(100, 999000)}, {impl.RecOp{Kind: 3, Time: 999000, Num: v, Size: v, Delay: v, Ranges: ranges}, stands(100, 1998000).probed(1)},
				{impl.RecOp{Kind: 2, Time: 999000, Num: v, Size: v, Asks: v%2 == 0, Ranges: pairs(0, 0)}, stands(0, -1).acked(0).rtt(999000, 999000, 999000, 499500)},
			})
		}
	}
}

// As many ranges as there may be, of which each second number was sent or not.
func TestRecoveryManyRanges(t *testing.T) {
	var all, even []recStep
	for n := range 129 {
		all = append(all, recStep{sentAt(0, n), stands(100*n+100, 999000)})
	}
	for n := range 65 {
		even = append(even, recStep{sentAt(0, 2*n), stands(100*n+100, 999000)})
	}
	last := func(steps []recStep, op impl.RecOp, want recWant) {
		checkRecSteps(t, 0, append(steps[:len(steps):len(steps)], recStep{op, want}))
	}
	last(even, impl.RecOp{Kind: 2, Time: 8, Ranges: spacedRanges(64, 2)}, stands(0, -1).acked(rising(64, 2, 2)...).lost(0).rtt(8, 8, 8, 4))
	last(even, impl.RecOp{Kind: 2, Time: 8, Ranges: spacedRanges(65, 0)}, stands(6500, 999000).bad())
	last(even, impl.RecOp{Kind: 2, Time: 8, Ranges: spacedRanges(64, 1)}, stands(6500, 999000).frame())
	last(all, impl.RecOp{Kind: 2, Time: 8, Ranges: spacedRanges(64, 1)}, stands(200, 1000).acked(rising(64, 1, 2)...).lost(rising(63, 0, 2)...).rtt(8, 8, 8, 4))
	last(all, acksAt(8, 0, 128), stands(0, -1).acked(rising(129, 0, 1)...).rtt(8, 8, 8, 4))
	last(all, acksAt(8, 0, 129), stands(12900, 999000).frame())
	last(all, acksAt(8, 0, 127), stands(100, 8+1000).acked(rising(128, 0, 1)...).rtt(8, 8, 8, 4))
	last(all, acksAt(8, 128, 128), stands(200, 1000).acked(128).lost(rising(126, 0, 1)...).rtt(8, 8, 8, 4))
}

func TestRecoveryMaxDelays(t *testing.T) {
	ops := []impl.RecOp{sentAt(0, 0), waitedAt(800, 100, 0, 0), sentAt(800, 1), waitedAt(2000, 100, 1, 1), sentAt(2000, 2), timerAt(5000)}
	for _, v := range append(oddInts(), maxTime-1, maxTime, maxTime+1) {
		if isTime(v) {
			checkRecAsked(t, v, ops)
			checkRec(t, v, nil, nil)
			continue
		}
		refusesRec(t, v, ops, impl.ErrBad)
		refusesRec(t, v, nil, impl.ErrBad)
		refusesRec(t, v, make([]impl.RecOp, 401), impl.ErrLong)
	}
}

func TestRecoveryHowMany(t *testing.T) {
	run := func(n int) []impl.RecOp {
		list := make([]impl.RecOp, n)
		for i := range list {
			list[i] = []impl.RecOp{sentAt(i, i), acksAt(i, i-1, i-1)}[i%2]
		}
		return list
	}
	for _, n := range []int{0, 1, 2, 399} {
		checkRecAsked(t, 0, append(run(n), timerAt(n)))
	}
	checkRecAsked(t, 0, run(400))
	for _, n := range []int{401, 402, 5000} {
		for _, maxDelay := range []int{0, -1, maxTime + 1} {
			refusesRec(t, maxDelay, run(n), impl.ErrLong)
			refusesRec(t, maxDelay, make([]impl.RecOp, n), impl.ErrLong)
		}
	}
}

// All packets that a run can hold are in flight, and go at once.
func TestP10AsManyAsARunHolds(t *testing.T) {
	var ops []impl.RecOp
	for n := range 399 {
		ops = append(ops, sizedAt(n, n, 2000))
	}
	for _, last := range []impl.RecOp{acksAt(500, 0, 398), acksAt(500, 398, 398), acksAt(500, 0, 0), timerAt(999398), timerAt(999397), acksAt(5000, 0, 100, 300, 310)} {
		checkRecAsked(t, 0, append(ops[:399:399], last))
	}
	got, _ := impl.RecoveryRun(0, append(ops, acksAt(500, 398, 398)))
	if last := got[399]; got[398].Flight != 798000 || len(last.Acked) != 1 || len(last.Lost) != 396 || last.Flight != 4000 {
		t.Errorf("%d in flight, then %+v", got[398].Flight, last)
	}
}

// drawnRecRanges are mostly of numbers that were sent.
func drawnRecRanges(more *numbers, a *askedRecovery) []impl.Range {
	var list []impl.Range
	for at, p := range a.packets {
		if at < len(a.packets)-12 && more.below(3) != 0 || more.below(2) != 0 || len(list) == 64 {
			continue
		}
		switch last := len(list) - 1; {
		case last >= 0 && list[last].Hi == p.num-1:
			list[last].Hi = p.num
		default:
			list = append(list, impl.Range{Lo: p.num, Hi: p.num})
		}
	}
	if len(list) > 0 && more.below(3) == 0 {
		list = list[more.below(len(list)):]
	}
	if len(list) > 0 && more.below(15) == 0 {
		list[more.below(len(list))].Hi += more.below(4) - 1
	}
	return list
}

// drawnRecOp has things in the fields that its kind does not ask for, too.
func drawnRecOp(more *numbers, a *askedRecovery, pace int) impl.RecOp {
	next := 0
	if len(a.packets) > 0 {
		next = a.packets[len(a.packets)-1].num + 1
	}
	op := impl.RecOp{Kind: []int{1, 1, 1, 2, 2, 3}[more.below(6)], Time: a.last + more.below(1<<more.below(pace)), Num: next + more.below(1+more.below(3)), Size: 1 + more.below(2000), Delay: more.below(1 << more.below(pace)), Asks: more.below(4) != 0, Ranges: drawnRecRanges(more, a)}
	if timer := a.timer(); timer != -1 && op.Kind == 3 && more.below(4) != 0 {
		op.Time = max(a.last, timer-more.below(2))
	}
	if loss := a.lossTime(); loss != -1 && op.Kind == 2 && more.below(4) == 0 {
		op.Time = max(a.last, loss-1+more.below(3))
	}
	switch more.below(60) {
	case 0:
		op.Kind = near(more, 0, 4)
	case 1, 2:
		op.Time = near(more, 0, a.last, maxTime)
	case 3, 4:
		op.Num = near(more, 0, next, maxVar)
	case 5, 6:
		op.Size = near(more, 0, 2000)
	case 7, 8:
		op.Delay = near(more, 0, maxTime)
	}
	return op
}

func drawnMaxDelay(more *numbers, pace int) int {
	if more.below(2) == 0 {
		return 0
	}
	return more.below(1 << more.below(pace))
}

// drawnRec is a run, and what is to be answered to it.
func drawnRec(more *numbers, count int) (int, []impl.RecOp, []impl.RecObs) {
	pace := 1 + more.below(24)
	maxDelay := drawnMaxDelay(more, pace)
	a := newAskedRecovery(maxDelay)
	var ops []impl.RecOp
	var want []impl.RecObs
	for range count {
		op := drawnRecOp(more, a, pace)
		ops, want = append(ops, op), append(want, a.run(op))
	}
	return maxDelay, ops, want
}

func TestRecoveryDrawn(t *testing.T) {
	more := numbers(93)
	acked, lost, probes, measured := 0, 0, 0, 0
	for range 5000 {
		maxDelay, ops, want := drawnRec(&more, 1+more.below(90))
		checkRec(t, maxDelay, ops, want)
		for _, obs := range want {
			acked, lost, probes = acked+len(obs.Acked), lost+len(obs.Lost), probes+way(obs.Probe)
			measured += way(obs.Rtt != impl.Rtt{})
		}
	}
	if min(acked, lost, probes, measured) < 2000 {
		t.Errorf("%d were acknowledged, %d lost; %d probes, %d answers with a round trip", acked, lost, probes, measured)
	}
}
