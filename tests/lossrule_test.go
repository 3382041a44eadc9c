package tests

import (
	"slices"
	"testing"

	"loop.example/g00012/impl"
)

func checkLossSteps(t *testing.T, steps []ccStep) {
	t.Helper()
	checkCcSteps(t, impl.CcLoss, steps)
}

// laden are steps ahead of which nothing was on its way, and behind which 2000 bytes a packet are; by CcLoss the window stands.
func laden(packets int) []ccStep {
	var steps []ccStep
	for i := range packets {
		steps = append(steps, ccStep{ccSent(0, 2000), starts(12000, 2000*i+2000)})
	}
	return steps
}

func TestP11StartGrowsByWhatIsAcknowledged(t *testing.T) {
	checkLossSteps(t, append(laden(4),
		ccStep{ccAcked(9, 0, 1, 1), starts(12001, 7999)}, ccStep{ccAcked(9, 0, 0, 1), starts(12001, 7999)}, ccStep{ccAcked(9, 0, 1999, 1), starts(14000, 6000)}, ccStep{ccAcked(9, 0, 2000, 1), starts(16000, 4000)},
		// The times of an acknowledgement, and its round trip, are nothing to the rule.
		ccStep{ccAcked(0, maxTime, 700, maxTime), starts(16700, 3300)}, ccStep{ccAcked(maxTime, 0, 300, 1), starts(17000, 3000)}, ccStep{ccAcked(5, 5, 2000, 7), starts(19000, 1000)}, ccStep{ccAcked(0, 0, 1000, 7), starts(20000, 0)}, ccStep{ccAcked(0, 0, 0, 7), starts(20000, 0)}, ccStep{ccAsk(2000), starts(20000, 0).may()},
	))
}

// As much as a run can hold: the window never comes near the threshold.
func TestP11LongestStart(t *testing.T) {
	var ops []impl.CcOp
	for range 300 {
		ops = append(ops, ccSent(0, 2000))
	}
	for range 300 {
		ops = append(ops, ccAcked(1, 0, 2000, 1))
	}
	checkCcAsked(t, impl.CcLoss, ops)
	got, _ := impl.CcRun(impl.CcLoss, ops)
	if got[299] != impl.CcObs(starts(12000, 600000)) || got[599] != impl.CcObs(starts(612000, 0)) {
		t.Errorf("%+v, %+v", got[299], got[599])
	}
}

func TestP11FallsOnceForAllThatWasOnItsWay(t *testing.T) {
	checkLossSteps(t, append(laden(8),
		ccStep{ccLost(11, 2, 1000), holds(6000, 15000)}, ccStep{ccLost(12, 3, 1000), holds(6000, 14000)}, ccStep{ccLost(13, 2, 1000), holds(6000, 13000)}, ccStep{ccLost(20, 0, 1000), holds(6000, 12000)}, ccStep{ccLost(20, 10, 1000), holds(6000, 11000)}, ccStep{ccLost(20, 11, 1000), holds(6000, 10000)},
		// What was sent behind the fall.
		ccStep{ccLost(30, 12, 1000), holds(3000, 9000)}, ccStep{ccLost(31, 13, 1000), holds(3000, 8000)}, ccStep{ccLost(32, 29, 1000), holds(3000, 7000)}, ccStep{ccLost(32, 30, 1000), holds(3000, 6000)}, ccStep{ccLost(32, 31, 1000), holds(2400, 5000)}, ccStep{ccLost(99, 33, 1000), holds(2400, 4000)},
	))
	// One at the mark itself, far behind it; a loss of no bytes is one, too.
	checkLossSteps(t, []ccStep{{ccLost(0, 0, 0), holds(6000, 0)}, {ccLost(0, 0, 0), holds(6000, 0)}, {ccLost(5, 0, 0), holds(6000, 0)}, {ccLost(5, 1, 0), holds(3000, 0)}, {ccLost(maxTime, 5, 0), holds(3000, 0)}, {ccLost(maxTime, 6, 0), holds(2400, 0)}, {ccLost(maxTime, maxTime, 0), holds(2400, 0)}})
	// Behind a mark at the greatest time nothing counts any more.
	checkLossSteps(t, append(laden(6), ccStep{ccLost(maxTime, 0, 100), holds(6000, 11900)}, ccStep{ccLost(maxTime, maxTime, 100), holds(6000, 11800)}, ccStep{ccAcked(maxTime, maxTime, 2000, 1), holds(6000, 9800)}, ccStep{ccAcked(maxTime, maxTime, 2000, 1), holds(6000, 7800)}, ccStep{ccAcked(maxTime, maxTime, 2000, 1), holds(6000, 5800)}, ccStep{ccAcked(maxTime, maxTime, 2000, 1), holds(6000, 3800)}))
}

// The mark is the time of the loss, also where that went back.
func TestLossMarkGoesBack(t *testing.T) {
	checkLossSteps(t, append(laden(6),
		ccStep{ccLost(100, 50, 100), holds(6000, 11900)}, ccStep{ccLost(30, 100, 100), holds(6000, 11800)}, ccStep{ccLost(30, 101, 100), holds(3000, 11700)}, ccStep{ccLost(5, 30, 100), holds(3000, 11600)}, ccStep{ccAcked(6, 30, 2000, 1), holds(3000, 9600)}, ccStep{ccAcked(6, 30, 2000, 1), holds(3000, 7600)},
		ccStep{ccAcked(6, 31, 2000, 1), holds(3000, 5600)}, ccStep{ccAcked(6, 31, 1000, 1), holds(4200, 4600)}, ccStep{ccLost(5, 31, 100), holds(2400, 4500)}, ccStep{ccAcked(6, 5, 2000, 1), holds(2400, 2500)}, ccStep{ccAcked(6, 6, 2000, 1), holds(2400, 500)}, ccStep{ccAcked(6, 6, 400, 1), holds(3600, 100)},
	))
}

// An acknowledgement of what was sent ahead of the fall tells nothing, and leaves no rest.
func TestP11AcknowledgedAcrossTheFall(t *testing.T) {
	for _, c := range []struct {
		sent   int
		counts bool
	}{{0, false}, {10, false}, {11, false}, {12, true}, {13, true}, {maxTime, true}} {
		steps := append(laden(9), ccStep{ccLost(11, 2, 2000), holds(6000, 16000)})
		for i := range 3 {
			steps = append(steps, ccStep{ccAcked(20, c.sent, 2000, 1), holds(6000+1200*way(c.counts && i == 2), 14000-2000*i)})
		}
		last := steps[len(steps)-1].want.Window
		steps = append(steps, ccStep{ccAcked(20, 12, 2000, 1), holds(last, 8000)}, ccStep{ccAcked(20, 12, 2000, 1), holds(last, 6000)}, ccStep{ccAcked(20, 12, 1999, 1), holds(last, 4001)})
		steps = append(steps, ccStep{ccAcked(20, 12, 1, 1), holds(last+1200*way(!c.counts), 4000)})
		checkLossSteps(t, steps)
	}
}

// A window full of bytes makes the window a packet greater; what is left over counts for the next one.
func TestP11HoldGrowsByTheRest(t *testing.T) {
	fallen := append(laden(14), ccStep{ccLost(1, 0, 2000), holds(6000, 26000)})
	grow := func(steps ...ccStep) { checkLossSteps(t, slices.Concat(fallen, steps)) }
	full := func(window, flight int) ccStep { return ccStep{ccAcked(3, 2, 2000, 1), holds(window, flight)} }
	// One below the window, at it, and on from there without a rest.
	grow(full(6000, 24000), full(6000, 22000), ccStep{ccAcked(3, 2, 1999, 1), holds(6000, 20001)}, ccStep{ccAcked(3, 2, 0, 1), holds(6000, 20001)}, ccStep{ccAcked(3, 2, 1, 1), holds(7200, 20000)}, ccStep{ccAcked(3, 2, 0, 1), holds(7200, 20000)},
		full(7200, 18000), full(7200, 16000), full(7200, 14000), ccStep{ccAcked(3, 2, 1199, 1), holds(7200, 12801)}, ccStep{ccAcked(3, 2, 1, 1), holds(8400, 12800)})
	// 1999 are left over, so that 5201 more are wanting.
	grow(full(6000, 24000), full(6000, 22000), ccStep{ccAcked(3, 2, 1999, 1), holds(6000, 20001)}, full(7200, 18001), full(7200, 16001), full(7200, 14001), ccStep{ccAcked(3, 2, 1200, 1), holds(7200, 12801)}, ccStep{ccAcked(3, 2, 1, 1), holds(8400, 12800)})
	// A loss that changes the window leaves no rest; another one leaves it.
	grow(full(6000, 24000), full(6000, 22000), ccStep{ccAcked(3, 2, 1999, 1), holds(6000, 20001)}, ccStep{ccLost(5, 1, 1), holds(6000, 20000)}, ccStep{ccAcked(6, 2, 1, 1), holds(7200, 19999)})
	grow(full(6000, 24000), full(6000, 22000), ccStep{ccAcked(3, 2, 1999, 1), holds(6000, 20001)}, ccStep{ccLost(5, 2, 1), holds(3000, 20000)}, ccStep{ccAcked(6, 6, 1, 1), holds(3000, 19999)}, ccStep{ccAcked(6, 6, 2000, 1), holds(3000, 17999)}, ccStep{ccAcked(6, 6, 998, 1), holds(3000, 17001)}, ccStep{ccAcked(6, 6, 1, 1), holds(4200, 17000)})
	// What was refused leaves none either, nor moves the mark.
	grow(full(6000, 24000), ccStep{ccAcked(3, 2, 2001, 1), holds(6000, 24000).bad()}, ccStep{ccAcked(3, 2, 2000, 0), holds(6000, 24000).bad()}, ccStep{ccLost(9, maxTime+1, 1), holds(6000, 24000).bad()}, ccStep{ccLost(9, 5, 2001), holds(6000, 24000).bad()}, full(6000, 22000), full(7200, 20000))
	// From the least window on.
	grow(ccStep{ccLost(1, 2, 0), holds(3000, 26000)}, ccStep{ccLost(1, 2, 0), holds(2400, 26000)}, full(2400, 24000), full(3600, 22000), full(4800, 20000), full(4800, 18000), full(4800, 16000), full(6000, 14000), full(6000, 12000), full(6000, 10000), full(7200, 8000))
}

// grownBy are steps behind which the window is so many bytes above the first one.
func grownBy(bytes int) []ccStep {
	steps := laden(6)
	for flight, window := 12000, 12000; bytes > 0; {
		n := min(bytes, 2000)
		flight, window, bytes = flight-n, window+n, bytes-n
		steps = append(steps, ccStep{ccAcked(1, 0, n, 1), starts(window, flight)})
	}
	return steps
}

// Half of an odd window is rounded down; no half is below the least window.
func TestP11Halves(t *testing.T) {
	for _, c := range []struct {
		bytes   int
		windows []int
	}{
		{0, []int{6000, 3000, 2400, 2400}}, {1, []int{6000, 3000, 2400}}, {2, []int{6001, 3000, 2400}}, {3, []int{6001, 3000, 2400}}, {4, []int{6002, 3001, 2400}},
		{7192, []int{9596, 4798, 2400, 2400}}, {7196, []int{9598, 4799, 2400, 2400}}, {7199, []int{9599, 4799, 2400}}, {7200, []int{9600, 4800, 2400, 2400}}, {7201, []int{9600, 4800, 2400}}, {7204, []int{9602, 4801, 2400}}, {7207, []int{9603, 4801, 2400}}, {7208, []int{9604, 4802, 2401, 2400, 2400}}, {7212, []int{9606, 4803, 2401, 2400}}, {7216, []int{9608, 4804, 2402, 2400}},
		{11999, []int{11999, 5999, 2999, 2400, 2400}}, {12000, []int{12000, 6000, 3000, 2400, 2400}},
	} {
		steps := grownBy(c.bytes)
		flight := 12000 - c.bytes
		for i, window := range c.windows {
			steps = append(steps, ccStep{ccLost(10*i+10, 10*i+9, 0), holds(window, flight)}, ccStep{ccLost(10*i+10, 10*i+10, 0), holds(window, flight)})
		}
		checkLossSteps(t, steps)
	}
}

// Just at the threshold, as behind each fall, the window holds; it starts no more.
func TestP11HoldsFromTheThresholdOn(t *testing.T) {
	for _, bytes := range []int{0, 1, 1999, 2000} {
		checkLossSteps(t, append(laden(3), ccStep{ccLost(1, 0, 100), holds(6000, 5900)}, ccStep{ccAcked(9, 2, bytes, 1), holds(6000, 5900-bytes)}, ccStep{ccSent(9, 2000), holds(6000, 7900-bytes)}, ccStep{ccAsk(bytes), holds(6000, 7900-bytes)}))
	}
	// A loss in a run that never started to grow, and one behind growth.
	checkLossSteps(t, append(grownBy(4001), ccStep{ccAsk(1), starts(16001, 7999).may()}, ccStep{ccLost(1, 1, 1999), holds(8000, 6000)}, ccStep{ccAsk(2000), holds(8000, 6000).may()}, ccStep{ccSent(1, 1), holds(8000, 6001)}, ccStep{ccAsk(2000), holds(8000, 6001)}))
}
