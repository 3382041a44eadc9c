package tests

import (
	"fmt"
	"math"
	"math/big"
	"slices"
	"strings"
	"testing"

	"loop.example/g00012/impl"
)

const (
	leastWindow = 2400
	mostWindow  = 100000000
	maxRate     = 1000000000000
)

func TestCongestionLimits(t *testing.T) {
	for i, pair := range [][2]int{
		{impl.Full, 1200}, {impl.FirstWindow, 12000}, {impl.LeastWindow, leastWindow}, {impl.MostWindow, mostWindow}, {impl.MaxRate, maxRate}, {impl.MaxCcOps, 600}, {impl.Samples, 8},
		{impl.CcLoss, 1}, {impl.CcModel, 2}, {impl.CcStart, 0}, {impl.CcHold, 1}, {impl.CcDrain, 2}, {impl.CcCruise, 3}, {impl.CSent, 1}, {impl.CAcked, 2}, {impl.CLost, 3}, {impl.CAsk, 4},
	} {
		if pair[0] != pair[1] {
			t.Errorf("constant %d is %d, want %d", i, pair[0], pair[1])
		}
	}
}

func times(a, b *big.Int) *big.Int { return new(big.Int).Mul(a, b) }

func paceAsked(bytes, rate int) int {
	if !inRange(bytes, 0, mostWindow) || !inRange(rate, 1, maxRate) {
		return -1
	}
	whole, rest := new(big.Int).DivMod(times(wide(bytes), wide(1000000)), wide(rate), new(big.Int))
	return int(whole.Int64()) + rest.Sign()
}

func checkPace(t *testing.T, bytes, rate, want int) {
	t.Helper()
	if got := impl.PaceDelay(bytes, rate); got != want {
		t.Errorf("PaceDelay(%d, %d) = %d, want %d", bytes, rate, got, want)
	}
}

func TestPaceDelays(t *testing.T) {
	for _, c := range [][3]int{
		{0, 1, 0}, {0, 7, 0}, {0, maxRate, 0}, {1, 1, 1000000}, {2, 1, 2000000}, {mostWindow, 1, 100000000000000}, {mostWindow - 1, 1, 99999999000000},
		// Without a rest, with the least one, and with the greatest one.
		{1200, 1200000, 1000}, {1200, 1200001, 1000}, {1200, 1199999, 1001}, {1200, 1000000, 1200}, {1, 1000000, 1}, {1, 999999, 2}, {1, 1000001, 1}, {2, 1000001, 2}, {1, 3, 333334}, {2, 3, 666667}, {3, 3, 1000000}, {1, 2, 500000}, {1, 7, 142858}, {7, 7, 1000000}, {1, 500000, 2}, {1, 500001, 2}, {1, 499999, 3},
		{1, maxRate, 1}, {1, maxRate - 1, 1}, {999999, maxRate, 1}, {1000000, maxRate, 1}, {1000001, maxRate, 2}, {2000000, maxRate, 2}, {1000000, maxRate - 1, 2}, {mostWindow, maxRate, 100}, {mostWindow, maxRate - 1, 101}, {mostWindow - 1, maxRate, 100}, {mostWindow, 100000000, 1000000}, {mostWindow, 99999999, 1000001}, {mostWindow, 3, 33333333333334},
	} {
		checkPace(t, c[0], c[1], c[2])
		checkPace(t, c[0], c[1], paceAsked(c[0], c[1]))
	}
	for _, wrong := range []int{-1, -2, math.MinInt, math.MinInt + 1, math.MaxInt} {
		checkPace(t, wrong, 1, -1)
		checkPace(t, wrong, maxRate, -1)
		checkPace(t, 0, wrong, -1)
		checkPace(t, 1, wrong, -1)
		checkPace(t, wrong, wrong, -1)
	}
	checkPace(t, mostWindow+1, 1, -1)
	checkPace(t, mostWindow+1, maxRate, -1)
	checkPace(t, 0, 0, -1)
	checkPace(t, 1, 0, -1)
	checkPace(t, mostWindow, 0, -1)
	checkPace(t, 0, maxRate+1, -1)
	checkPace(t, mostWindow, maxRate+1, -1)
	checkPace(t, mostWindow+1, maxRate+1, -1)
}

// The delay is the least one in which so many bytes pass.
func TestPaceDelaysDrawn(t *testing.T) {
	more := numbers(96)
	for range 30000 {
		bytes, rate := more.below(1<<(1+more.below(27)))%(mostWindow+1), max(1, drawnTime(&more))
		if more.below(3) == 0 {
			bytes = near(&more, 0, mostWindow, rate)
		}
		if more.below(3) == 0 {
			rate = near(&more, 0, 1000000, maxRate)
		}
		checkPace(t, bytes, rate, paceAsked(bytes, rate))
		delay := impl.PaceDelay(bytes, rate)
		if delay == -1 {
			continue
		}
		need := times(wide(bytes), wide(1000000))
		if times(wide(delay), wide(rate)).Cmp(need) < 0 || delay > 0 && times(wide(delay-1), wide(rate)).Cmp(need) >= 0 {
			t.Fatalf("PaceDelay(%d, %d) = %d", bytes, rate, delay)
		}
	}
}

func TestP1PaceDelayTakesAnyIntegers(t *testing.T) {
	values := append(oddInts(), mostWindow-1, mostWindow, mostWindow+1, maxRate-1, maxRate, maxRate+1)
	for _, bytes := range values {
		for _, rate := range values {
			mustEnd(t, fmt.Sprintf("PaceDelay(%d, %d)", bytes, rate), func() { checkPace(t, bytes, rate, paceAsked(bytes, rate)) })
		}
	}
}

// askedCc goes by the chapter, word by word. Of the model it holds what was acknowledged, and works out the rest of it anew.
type askedCc struct {
	kind, flight             int
	window, rate, state      int
	threshold, mark, rest    int
	acks                     []impl.CcOp
	best, count, phase, turn int
	// How often a thing was met that a run meets seldom.
	rounds, capped int
}

func newAskedCc(kind int) *askedCc {
	return &askedCc{kind: kind, window: 12000, threshold: mostWindow, mark: -1}
}

func (a *askedCc) fault(op impl.CcOp) int {
	named := op.Kind == 2
	switch {
	case !inRange(op.Kind, 1, 4) || !isTime(op.Time) || !isTime(op.Sent) || named && !inRange(op.Trip, 1, maxTime) || !inRange(op.Bytes, 0, 2000):
		return impl.ErrBad
	case (op.Kind == 2 || op.Kind == 3) && op.Bytes > a.flight:
		return impl.ErrState
	}
	return impl.OK
}

func (a *askedCc) lossAcked(op impl.CcOp) {
	if !(op.Sent > a.mark) {
		return
	}
	if a.window < a.threshold {
		a.state = 0
		a.window += op.Bytes
	} else {
		a.state = 1
		a.rest += op.Bytes
		for ; a.rest >= a.window; a.rounds++ {
			was := a.window
			a.rest -= was
			a.window = was + 1200
		}
	}
	if a.window > mostWindow {
		a.window = mostWindow
	}
}

func (a *askedCc) lossLost(op impl.CcOp) {
	if !(op.Sent > a.mark) {
		return
	}
	half := a.window / 2
	if half < leastWindow {
		half = leastWindow
	}
	a.mark, a.threshold, a.window, a.state, a.rest = op.Time, half, half, 1, 0
}

// sample is that of the acknowledgement at place i.
func (a *askedCc) sample(i int) int {
	this := a.acks[i]
	bytes := this.Bytes
	for _, earlier := range a.acks[:i] {
		if earlier.Time > this.Sent {
			bytes += earlier.Bytes
		}
	}
	took := this.Time - this.Sent
	if took < 1 {
		took = 1
	}
	if rate := bytes * 1000000 / took; rate < maxRate {
		return rate
	}
	return maxRate
}

func (a *askedCc) bandwidth() int {
	greatest := 0
	for i := range a.acks {
		if i >= len(a.acks)-8 && a.sample(i) > greatest {
			greatest = a.sample(i)
		}
	}
	return greatest
}

func (a *askedCc) floor() int {
	least := a.acks[0].Trip
	for _, each := range a.acks {
		if each.Trip < least {
			least = each.Trip
		}
	}
	return least
}

// atMost is a / b, rounded down, but at most limit.
func atMost(a, b *big.Int, limit int) int {
	part := new(big.Int).Div(a, b)
	if part.Cmp(wide(limit)) > 0 {
		return limit
	}
	return int(part.Int64())
}

func (a *askedCc) modelAcked(op impl.CcOp) {
	a.acks = append(a.acks, op)
	bandwidth, floor := a.bandwidth(), a.floor()
	product := atMost(times(wide(bandwidth), wide(floor)), wide(1000000), mostWindow)
	switch a.state {
	case 0:
		if 4*bandwidth >= 5*a.best {
			a.best, a.count = bandwidth, 0
		} else if a.count++; a.count == 3 {
			a.state = 2
		}
	case 2:
		if a.flight <= product {
			a.state, a.phase, a.turn = 3, 0, op.Time
		}
	case 3:
		if op.Time-a.turn >= floor {
			a.turn = op.Time
			if a.phase++; a.phase == 8 {
				a.phase = 0
			}
		}
	}
	gain := 8
	switch {
	case a.state == 0:
		gain = 23
	case a.state == 2:
		gain = 3
	case a.phase == 0:
		gain = 10
	case a.phase == 1:
		gain = 6
	}
	a.rate = atMost(times(wide(gain), wide(bandwidth)), wide(8), maxRate)
	if gain*bandwidth/8 > maxRate || product == mostWindow {
		a.capped++
	}
	if a.state == 3 {
		a.window = 2 * product
	} else {
		a.window = 23 * product / 8
	}
	if a.window < 4800 {
		a.window = 4800
	}
	if a.window > mostWindow {
		a.window = mostWindow
	}
}

func (a *askedCc) run(op impl.CcOp) impl.CcObs {
	obs := impl.CcObs{Code: a.fault(op)}
	if obs.Code == impl.OK {
		switch {
		case op.Kind == 1:
			a.flight += op.Bytes
		case op.Kind == 4:
			obs.May = a.flight+op.Bytes <= a.window
		default:
			a.flight -= op.Bytes
			switch {
			case a.kind == 1 && op.Kind == 2:
				a.lossAcked(op)
			case a.kind == 1:
				a.lossLost(op)
			case op.Kind == 2:
				a.modelAcked(op)
			}
		}
	}
	obs.Window, obs.Rate, obs.State, obs.Flight = a.window, a.rate, a.state, a.flight
	return obs
}

func ccSent(time, bytes int) impl.CcOp { return impl.CcOp{Kind: 1, Time: time, Bytes: bytes} }

func ccAcked(time, sent, bytes, trip int) impl.CcOp {
	return impl.CcOp{Kind: 2, Time: time, Sent: sent, Bytes: bytes, Trip: trip}
}

func ccLost(time, sent, bytes int) impl.CcOp {
	return impl.CcOp{Kind: 3, Time: time, Sent: sent, Bytes: bytes}
}

func ccAsk(bytes int) impl.CcOp { return impl.CcOp{Kind: 4, Bytes: bytes} }

// ccWant is what is to be answered, put together bit by bit.
type ccWant impl.CcObs

func starts(window, flight int) ccWant { return ccWant{Window: window, Flight: flight} }

func holds(window, flight int) ccWant { return ccWant{Window: window, State: 1, Flight: flight} }

func models(state, window, rate, flight int) ccWant {
	return ccWant{Window: window, Rate: rate, State: state, Flight: flight}
}

func (w ccWant) code(code int) ccWant { w.Code = code; return w }

func (w ccWant) bad() ccWant { return w.code(impl.ErrBad) }

func (w ccWant) tooMany() ccWant { return w.code(impl.ErrState) }

func (w ccWant) may() ccWant { w.May = true; return w }

// ccStep is an operation and what is to be answered to it.
type ccStep struct {
	op   impl.CcOp
	want ccWant
}

func toldCcOps(ops []impl.CcOp) string {
	var lines []string
	for _, op := range ops {
		lines = append(lines, fmt.Sprintf("%+v", op))
	}
	return strings.Join(lines, "\n  ")
}

func checkCc(t *testing.T, kind int, ops []impl.CcOp, want []impl.CcObs) {
	t.Helper()
	got, code := impl.CcRun(kind, ops)
	if code != impl.OK || len(got) != len(want) {
		t.Errorf("CcRun(%d, %d operations) = %d answers, code %d", kind, len(ops), len(got), code)
		return
	}
	for i := range want {
		if got[i] != want[i] {
			t.Errorf("CcRun(%d), answer %d = %+v, want %+v, of\n  %s", kind, i, got[i], want[i], toldCcOps(ops[:i+1]))
			return
		}
	}
}

func ccAsked(kind int, ops []impl.CcOp) []impl.CcObs {
	a := newAskedCc(kind)
	var want []impl.CcObs
	for _, op := range ops {
		want = append(want, a.run(op))
	}
	return want
}

func checkCcAsked(t *testing.T, kind int, ops []impl.CcOp) {
	t.Helper()
	checkCc(t, kind, ops, ccAsked(kind, ops))
}

func refusesCc(t *testing.T, kind int, ops []impl.CcOp, code int) {
	t.Helper()
	if got, gotCode := impl.CcRun(kind, ops); gotCode != code || len(got) != 0 {
		t.Errorf("CcRun(%d, %d operations) = %d answers, code %d, want code %d alone", kind, len(ops), len(got), gotCode, code)
	}
}

// checkCcSteps runs each beginning of the steps too: no answer hangs on what comes behind it.
func checkCcSteps(t *testing.T, kind int, steps []ccStep) {
	t.Helper()
	var ops []impl.CcOp
	var want []impl.CcObs
	for _, s := range steps {
		ops = append(ops, s.op)
		want = append(want, impl.CcObs(s.want))
		checkCc(t, kind, ops, want)
	}
	checkCcAsked(t, kind, ops)
}

// eachRule asks of both rules.
func eachRule(ask func(kind int)) {
	for _, kind := range []int{impl.CcLoss, impl.CcModel} {
		ask(kind)
	}
}

// Before the first acknowledgement both rules tell the same, whatever was sent; only CcLoss heeds a loss.
func TestP11BeforeTheFirstAcknowledgement(t *testing.T) {
	eachRule(func(kind int) {
		checkCcSteps(t, kind, []ccStep{
			{ccAsk(0), starts(12000, 0).may()}, {ccAsk(2000), starts(12000, 0).may()}, {ccSent(5, 2000), starts(12000, 2000)}, {ccSent(3, 0), starts(12000, 2000)}, {ccSent(3, 1), starts(12000, 2001)}, {ccSent(0, 1999), starts(12000, 4000)},
			{ccSent(maxTime, 2000), starts(12000, 6000)}, {ccSent(0, 2000), starts(12000, 8000)}, {ccSent(0, 2000), starts(12000, 10000)}, {ccAsk(2000), starts(12000, 10000).may()}, {ccSent(0, 1), starts(12000, 10001)},
			{ccAsk(2000), starts(12000, 10001)}, {ccAsk(1999), starts(12000, 10001).may()}, {ccSent(0, 1999), starts(12000, 12000)}, {ccAsk(0), starts(12000, 12000).may()}, {ccAsk(1), starts(12000, 12000)},
			// What is sent though it may not be counts too.
			{ccSent(0, 2000), starts(12000, 14000)}, {ccAsk(0), starts(12000, 14000)}, {ccAsk(2000), starts(12000, 14000)},
		})
	})
	checkCcSteps(t, impl.CcModel, []ccStep{{ccSent(0, 2000), starts(12000, 2000)}, {ccLost(9, 0, 500), starts(12000, 1500)}, {ccLost(9, 9, 1500), starts(12000, 0)}, {ccLost(9, 0, 0), starts(12000, 0)}})
}

func TestCongestionFlight(t *testing.T) {
	checkCcSteps(t, impl.CcLoss, []ccStep{
		{ccAcked(1, 0, 1, 1), starts(12000, 0).tooMany()}, {ccLost(1, 0, 1), starts(12000, 0).tooMany()}, {ccAcked(1, 0, 0, 1), starts(12000, 0)}, {ccSent(1, 700), starts(12000, 700)},
		{ccAcked(2, 1, 701, 1), starts(12000, 700).tooMany()}, {ccAcked(2, 1, 2000, 1), starts(12000, 700).tooMany()}, {ccLost(2, 1, 701), starts(12000, 700).tooMany()}, {ccLost(2, 1, 2000), starts(12000, 700).tooMany()},
		{ccAcked(2, 1, 700, 1), starts(12700, 0)}, {ccAcked(2, 1, 1, 1), starts(12700, 0).tooMany()}, {ccLost(2, 1, 1), starts(12700, 0).tooMany()}, {ccSent(3, 300), starts(12700, 300)}, {ccAcked(4, 3, 100, 1), starts(12800, 200)},
		{ccLost(4, 3, 201), starts(12800, 200).tooMany()}, {ccLost(4, 3, 200), holds(6400, 0)}, {ccLost(4, 5, 1), holds(6400, 0).tooMany()}, {ccAcked(4, 5, 1, 1), holds(6400, 0).tooMany()},
	})
	checkCcSteps(t, impl.CcModel, []ccStep{
		{ccAcked(1, 0, 1, 1), starts(12000, 0).tooMany()}, {ccLost(1, 0, 1), starts(12000, 0).tooMany()}, {ccSent(0, 700), starts(12000, 700)}, {ccAcked(7, 0, 701, 9), starts(12000, 700).tooMany()}, {ccLost(7, 0, 701), starts(12000, 700).tooMany()},
		{ccAcked(7, 0, 700, 70), models(0, 20125, 287500000, 0)}, {ccAcked(7, 0, 1, 1), models(0, 20125, 287500000, 0).tooMany()}, {ccLost(7, 0, 1), models(0, 20125, 287500000, 0).tooMany()}, {ccSent(7, 2000), models(0, 20125, 287500000, 2000)},
		{ccLost(9, 7, 1999), models(0, 20125, 287500000, 1)}, {ccLost(9, 7, 2), models(0, 20125, 287500000, 1).tooMany()}, {ccLost(9, 7, 1), models(0, 20125, 287500000, 0)},
	})
}

// CAsk changes nothing, and no other kind tells May.
func TestP11MayBeSent(t *testing.T) {
	ops := []impl.CcOp{ccSent(0, 2000), ccSent(0, 2000), ccSent(0, 2000), ccAcked(100, 0, 1000, 100), ccAcked(150, 0, 1000, 100), ccLost(160, 0, 1000), ccSent(170, 2000)}
	eachRule(func(kind int) {
		want := ccAsked(kind, ops)
		for n := range ops {
			last := want[n]
			for _, bytes := range []int{0, 1, 1200, 2000, last.Window - last.Flight - 1, last.Window - last.Flight, last.Window - last.Flight + 1} {
				if !inRange(bytes, 0, 2000) {
					continue
				}
				asked := last
				asked.May = last.Flight+bytes <= last.Window
				checkCc(t, kind, slices.Concat(ops[:n+1], []impl.CcOp{ccAsk(bytes), ccAsk(bytes)}, ops[n+1:]), slices.Concat(want[:n+1], []impl.CcObs{asked, asked}, want[n+1:]))
			}
		}
	})
}

// ccMiddle is a run that has met something, and what is to be answered behind it.
func ccMiddle(kind int) ([]impl.CcOp, impl.CcObs) {
	ops := []impl.CcOp{ccSent(1, 2000), ccSent(2, 2000), ccSent(3, 2000), ccAcked(1001, 1, 2000, 1000), ccLost(1001, 2, 1000)}
	if kind == impl.CcLoss {
		return ops, impl.CcObs(holds(7000, 3000))
	}
	return ops, impl.CcObs(models(0, 5750, 5750000, 3000))
}

// checkCcRefused puts an operation behind a run that has met something: all but May are told as they stand, and nothing has changed.
func checkCcRefused(t *testing.T, kind int, op impl.CcOp, code int) {
	t.Helper()
	ahead, stand := ccMiddle(kind)
	want := stand
	want.Code = code
	behind := []impl.CcOp{ccAsk(2000), ccAcked(2002, 1002, 1000, 2000), ccLost(2002, 1002, 1000), ccSent(2002, 1), ccAcked(4000, 2002, 1001, 500)}
	all := slices.Concat(ahead, behind)
	answers := ccAsked(kind, all)
	if answers[len(ahead)-1] != stand {
		t.Fatalf("rule %d stands at %+v, not at %+v", kind, answers[len(ahead)-1], stand)
	}
	checkCc(t, kind, slices.Concat(ahead, []impl.CcOp{op}, behind), slices.Concat(answers[:len(ahead)], []impl.CcObs{want}, answers[len(ahead):]))
	first := impl.CcObs{Code: code, Window: 12000}
	checkCc(t, kind, slices.Concat([]impl.CcOp{op}, all), slices.Concat([]impl.CcObs{first}, answers))
}

// ccAccepted tells whether an operation behind that run has no code.
func ccAccepted(t *testing.T, kind int, op impl.CcOp) {
	t.Helper()
	ahead, _ := ccMiddle(kind)
	ops := append(ahead, op, ccAsk(0), ccAcked(maxTime, 5, 700, 1), ccLost(maxTime, maxTime, 1))
	checkCcAsked(t, kind, ops)
	if got, _ := impl.CcRun(kind, ops); got[len(ahead)].Code != impl.OK {
		t.Errorf("CcRun(%d): %+v has the code %d", kind, op, got[len(ahead)].Code)
	}
}

func ccKinds() []impl.CcOp {
	return []impl.CcOp{ccSent(1001, 900), ccAcked(1001, 1001, 900, 70), ccLost(1001, 1001, 900), ccAsk(900)}
}

func TestCongestionWrongFields(t *testing.T) {
	eachRule(func(kind int) {
		for _, op := range ccKinds() {
			ccAccepted(t, kind, op)
			for _, v := range []int{-1, maxTime + 1, math.MinInt, math.MinInt + 1, math.MaxInt, maxVar} {
				wrong := op
				wrong.Time = v
				checkCcRefused(t, kind, wrong, impl.ErrBad)
				wrong = op
				wrong.Sent = v
				checkCcRefused(t, kind, wrong, impl.ErrBad)
				wrong.Time = v
				checkCcRefused(t, kind, wrong, impl.ErrBad)
			}
			for _, v := range []int{0, 1, 1000, 1001, 1002, maxTime - 1, maxTime} {
				right := op
				right.Time = v
				ccAccepted(t, kind, right)
				right = op
				right.Sent = v
				ccAccepted(t, kind, right)
				right.Time = v
				ccAccepted(t, kind, right)
			}
			for _, v := range []int{-1, 2001, math.MinInt, math.MaxInt, maxTime} {
				wrong := op
				wrong.Bytes = v
				checkCcRefused(t, kind, wrong, impl.ErrBad)
			}
			for _, v := range []int{0, 1, 1999, 2000} {
				right := op
				right.Bytes = v
				ccAccepted(t, kind, right)
			}
		}
	})
}

// Trip is named of an acknowledgement alone.
func TestCongestionTrips(t *testing.T) {
	eachRule(func(kind int) {
		for _, v := range append(oddInts(), -1, 0, 1, 2, maxTime-1, maxTime, maxTime+1) {
			for _, op := range ccKinds() {
				op.Trip = v
				if op.Kind == 2 && !inRange(v, 1, maxTime) {
					checkCcRefused(t, kind, op, impl.ErrBad)
				} else {
					ccAccepted(t, kind, op)
				}
			}
		}
	})
}

func TestCongestionOtherKinds(t *testing.T) {
	eachRule(func(kind int) {
		for _, other := range []int{0, -1, -2, 5, 6, 255, 256, 257, 258, 259, 260, math.MinInt, math.MaxInt} {
			checkCcRefused(t, kind, impl.CcOp{Kind: other, Time: 2000, Bytes: 900, Sent: 1500, Trip: 70}, impl.ErrBad)
			checkCcRefused(t, kind, impl.CcOp{Kind: other}, impl.ErrBad)
			checkCcRefused(t, kind, impl.CcOp{Kind: other, Time: 2000, Bytes: 2000, Sent: 1500, Trip: 70}, impl.ErrBad)
		}
	})
}

// Of two faults the one that the chapter names first is told: more than is on its way is the last.
func TestCongestionOrderOfCodes(t *testing.T) {
	eachRule(func(kind int) {
		checkCc(t, kind, []impl.CcOp{ccSent(1, 9), ccAcked(5, 1, 10, 1), ccLost(5, 1, 10)}, []impl.CcObs{{Window: 12000, Flight: 9}, {Code: impl.ErrState, Window: 12000, Flight: 9}, {Code: impl.ErrState, Window: 12000, Flight: 9}})
		for _, op := range []impl.CcOp{
			ccAcked(-1, 1, 10, 1), ccAcked(5, -1, 10, 1), ccAcked(maxTime+1, 1, 10, 1), ccAcked(5, maxTime+1, 10, 1), ccAcked(5, 1, 10, 0), ccAcked(5, 1, 10, -1), ccAcked(5, 1, 10, maxTime+1), ccAcked(5, 1, 2001, 1), ccAcked(5, 1, math.MaxInt, 1),
			ccLost(-1, 1, 10), ccLost(5, -1, 10), ccLost(maxTime+1, 1, 10), ccLost(5, maxTime+1, 10), ccLost(5, 1, 2001), ccLost(5, 1, math.MaxInt),
		} {
			checkCc(t, kind, []impl.CcOp{ccSent(1, 9), op}, []impl.CcObs{{Window: 12000, Flight: 9}, {Code: impl.ErrBad, Window: 12000, Flight: 9}})
		}
	})
}

func TestCongestionKindsOfARun(t *testing.T) {
	ops := []impl.CcOp{ccSent(0, 2000), ccAcked(5, 0, 2000, 5)}
	for _, v := range append(oddInts(), 0, 3, 4, -1, -2) {
		if v == 1 || v == 2 {
			checkCcAsked(t, v, ops)
			checkCc(t, v, nil, nil)
			checkCc(t, v, []impl.CcOp{}, nil)
			continue
		}
		refusesCc(t, v, ops, impl.ErrBad)
		refusesCc(t, v, nil, impl.ErrBad)
		refusesCc(t, v, make([]impl.CcOp, 600), impl.ErrBad)
		refusesCc(t, v, make([]impl.CcOp, 601), impl.ErrLong)
	}
}

func TestCongestionHowMany(t *testing.T) {
	run := func(n int) []impl.CcOp {
		list := make([]impl.CcOp, n)
		for i := range list {
			list[i] = []impl.CcOp{ccSent(i, 2000), ccAcked(i+70, i-1, 1500, 70), ccLost(i, max(0, i-40), 100)}[i%3]
		}
		return list
	}
	eachRule(func(kind int) {
		for _, n := range []int{0, 1, 2, 599, 600} {
			checkCcAsked(t, kind, run(n))
		}
		for _, n := range []int{601, 602, 5000} {
			refusesCc(t, kind, run(n), impl.ErrLong)
			refusesCc(t, kind, make([]impl.CcOp, n), impl.ErrLong)
			refusesCc(t, kind+2, run(n), impl.ErrLong)
		}
	})
}
