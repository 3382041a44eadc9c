package tests

import (
	"slices"
	"testing"

	"loop.example/g00012/impl"
)

func checkModelSteps(t *testing.T, steps []ccStep) {
	t.Helper()
	checkCcSteps(t, impl.CcModel, steps)
}

// briskly is an acknowledgement of the k-th millisecond, of bytes that were sent at its begin: a sample of 1000 times so many.
func briskly(k, bytes, trip int) impl.CcOp { return ccAcked(1000*k+1000, 1000*k, bytes, trip) }

// slowly is one of the k-th second: a sample of just so many.
func slowly(k, bytes, trip int) impl.CcOp { return ccAcked(1000000*k+1000000, 1000000*k, bytes, trip) }

// toDrain are steps behind which the state is CcDrain, the bandwidth 2000000, the floor 5000 and so the product 10000.
func toDrain() []ccStep {
	return append(laden(20),
		ccStep{briskly(0, 2000, 5000), models(0, 28750, 5750000, 38000)}, ccStep{briskly(1, 2000, 5000), models(0, 28750, 5750000, 36000)},
		ccStep{briskly(2, 2000, 5000), models(0, 28750, 5750000, 34000)}, ccStep{briskly(3, 2000, 5000), models(2, 28750, 750000, 32000)},
	)
}

// toCruise are steps behind which the state is CcCruise in phase 0, with the turn at 7000.
func toCruise() []ccStep {
	steps := toDrain()
	for flight := 30000; flight >= 14000; flight -= 2000 {
		steps = append(steps, ccStep{ccLost(4000, 0, 2000), models(2, 28750, 750000, flight)})
	}
	return append(steps,
		ccStep{briskly(4, 2000, 5000), models(2, 28750, 750000, 12000)},
		// One above the product, and just at it.
		ccStep{briskly(5, 1999, 5000), models(2, 28750, 750000, 10001)}, ccStep{briskly(6, 1, 5000), models(3, 20000, 2500000, 10000)},
	)
}

func TestP11ModelStartsDrainsAndCruises(t *testing.T) {
	checkModelSteps(t, toCruise())
	// A loss may bring Flight below the product; the state changes at an acknowledgement alone, also at one of no bytes.
	steps := toDrain()
	for flight := 30000; flight >= 0; flight -= 2000 {
		steps = append(steps, ccStep{ccLost(4000, 0, 2000), models(2, 28750, 750000, flight)})
	}
	checkModelSteps(t, append(steps, ccStep{ccAsk(2000), models(2, 28750, 750000, 0).may()}, ccStep{ccSent(4000, 2000), models(2, 28750, 750000, 2000)}, ccStep{briskly(4, 0, 5000), models(3, 20000, 2500000, 2000)}))
	// At the third one that is no better the drain begins, even if Flight is at most the product already.
	checkModelSteps(t, append(laden(1),
		ccStep{briskly(0, 500, 40000), models(0, 57500, 1437500, 1500)}, ccStep{briskly(1, 500, 40000), models(0, 57500, 1437500, 1000)}, ccStep{briskly(2, 499, 40000), models(0, 57500, 1437500, 501)}, ccStep{briskly(3, 0, 40000), models(2, 57500, 187500, 501)}, ccStep{briskly(4, 1, 40000), models(3, 40000, 625000, 500)},
	))
}

// In CcCruise the turn comes floor behind the last one, one phase at a time, eight of them round and round.
func TestP11ModelPhases(t *testing.T) {
	steps := toCruise()
	for flight := 12000; flight <= 40000; flight += 2000 {
		steps = append(steps, ccStep{ccSent(7000, 2000), models(3, 20000, 2500000, flight)})
	}
	steps = append(steps,
		ccStep{ccAcked(11999, 11000, 0, 5000), models(3, 20000, 2500000, 40000)}, ccStep{ccAcked(12000, 11000, 2000, 5000), models(3, 20000, 1500000, 38000)},
		ccStep{ccAcked(16999, 15999, 2000, 5000), models(3, 20000, 1500000, 36000)}, ccStep{ccAcked(17000, 16000, 0, 5000), models(3, 20000, 2000000, 36000)},
	)
	flight := 36000
	for i := range 5 {
		flight -= 2000
		steps = append(steps, ccStep{briskly(5*i+21, 2000, 5000), models(3, 20000, 2000000, flight)})
	}
	// Behind the last phase the first again; much later it is the next one, no more than that.
	steps = append(steps,
		ccStep{ccAcked(46999, 45999, 2000, 5000), models(3, 20000, 2000000, 24000)}, ccStep{ccAcked(47000, 47000, 0, 5000), models(3, 20000, 2500000, 24000)}, ccStep{ccAcked(51999, 51999, 0, 5000), models(3, 20000, 2500000, 24000)}, ccStep{ccAcked(52000, 52000, 0, 5000), models(3, 20000, 1500000, 24000)},
		ccStep{ccLost(90000, 50000, 2000), models(3, 20000, 1500000, 22000)}, ccStep{ccAsk(9), models(3, 20000, 1500000, 22000)}, ccStep{briskly(151, 2000, 5000), models(3, 20000, 2000000, 20000)}, ccStep{ccAcked(156999, 156999, 0, 5000), models(3, 20000, 2000000, 20000)},
		// A time that goes back is behind no turn.
		ccStep{ccAcked(0, 156999, 0, 5000), models(3, 20000, 2000000, 20000)},
	)
	checkModelSteps(t, steps)
}

// The floor is the least Trip so far, that of the acknowledgement itself too.
func TestP11ModelTurnsByTheFloorAsItIs(t *testing.T) {
	for _, c := range []struct {
		trip int
		want ccWant
	}{
		{5000, models(3, 20000, 2500000, 8000)}, {maxTime, models(3, 20000, 2500000, 8000)}, {1001, models(3, 4800, 2500000, 8000)}, {1000, models(3, 4800, 1500000, 8000)}, {999, models(3, 4800, 1500000, 8000)}, {1, models(3, 4800, 1500000, 8000)},
	} {
		checkModelSteps(t, append(toCruise(), ccStep{briskly(7, 2000, c.trip), c.want}))
	}
	// Times that go back.
	checkModelSteps(t, append(toCruise(),
		ccStep{ccAcked(0, 7000, 0, 5000), models(3, 20000, 2500000, 10000)}, ccStep{ccAcked(6999, 7000, 0, 1), models(3, 4800, 2500000, 10000)}, ccStep{ccAcked(7000, 7000, 0, 1), models(3, 4800, 2500000, 10000)}, ccStep{ccAcked(7001, 7001, 0, 1), models(3, 4800, 1500000, 10000)}, ccStep{ccAcked(7001, 7001, 0, 1), models(3, 4800, 1500000, 10000)}, ccStep{ccAcked(7002, 7002, 0, 1), models(3, 4800, 1999000, 10000)},
	))
}

// In seconds: the rates are so small that each can be told from the one above it.
func TestP11ModelFiveQuarters(t *testing.T) {
	for _, c := range []struct{ rows [][3]int }{
		// Bytes, and State and Rate behind them; 5 is just 5/4 of 4, 6 is below 5/4 of 5, and the best stays 5.
		{[][3]int{{4, 0, 11}, {5, 0, 14}, {6, 0, 17}, {6, 0, 17}, {7, 0, 20}, {8, 0, 23}, {8, 0, 23}, {8, 2, 3}}},
		{[][3]int{{4, 0, 11}, {4, 0, 11}, {4, 0, 11}, {5, 0, 14}, {5, 0, 14}, {5, 0, 14}, {5, 2, 1}}},
		{[][3]int{{8, 0, 23}, {9, 0, 25}, {9, 0, 25}, {9, 2, 3}, {99, 2, 37}}},
		{[][3]int{{8, 0, 23}, {9, 0, 25}, {9, 0, 25}, {10, 0, 28}, {12, 0, 34}, {12, 0, 34}, {13, 0, 37}, {16, 0, 46}, {20, 0, 57}, {24, 0, 69}, {24, 0, 69}, {24, 2, 9}}},
		{[][3]int{{7, 0, 20}, {9, 0, 25}, {0, 0, 25}, {0, 0, 25}, {0, 2, 3}}},
		{[][3]int{{7, 0, 20}, {8, 0, 23}, {0, 0, 23}, {0, 2, 3}}},
		// Of a bandwidth of 0 each one is the best; 1 is one, too.
		{[][3]int{{0, 0, 0}, {0, 0, 0}, {0, 0, 0}, {0, 0, 0}, {0, 0, 0}, {1, 0, 2}, {1, 0, 2}, {1, 0, 2}, {1, 2, 0}, {3, 2, 1}}},
		{[][3]int{{1, 0, 2}, {0, 0, 2}, {2, 0, 5}, {0, 0, 5}, {0, 0, 5}, {3, 0, 8}, {4, 0, 11}, {1, 0, 11}, {1, 0, 11}, {1, 2, 1}}},
		{[][3]int{{2000, 0, 5750}, {1999, 0, 5750}, {1, 0, 5750}, {2000, 2, 750}}},
	} {
		steps, flight := laden(4), 8000
		for k, row := range c.rows {
			flight -= row[0]
			steps = append(steps, ccStep{slowly(k, row[0], 1), models(row[1], 4800, row[2], flight)})
		}
		checkModelSteps(t, steps)
	}
}

// The bandwidth may fall within CcStart: then the best one is above it.
func TestP11ModelForgetsSamples(t *testing.T) {
	steps, flight := laden(4), 8000
	for k, row := range [][3]int{
		{100, 0, 287}, {50, 0, 287}, {40, 0, 287}, {10, 2, 37}, {10, 2, 37}, {10, 2, 37}, {10, 2, 37},
		// The greatest is the last one of eight, then one ahead of them; so is the next one then.
		{10, 2, 37}, {10, 2, 18}, {10, 2, 15}, {9, 2, 3}, {8, 2, 3}, {8, 2, 3}, {8, 2, 3}, {8, 2, 3}, {8, 2, 3}, {8, 2, 3}, {8, 2, 3}, {8, 2, 3}, {0, 2, 3}, {0, 2, 3}, {0, 2, 3}, {0, 2, 3}, {0, 2, 3}, {0, 2, 3}, {0, 2, 3}, {0, 2, 0}, {1000, 2, 375}, {0, 2, 375},
	} {
		flight -= row[0]
		steps = append(steps, ccStep{slowly(k, row[0], 1), models(row[1], 4800, row[2], flight)})
	}
	checkModelSteps(t, steps)
}

// What has a code is no sample, and no round trip.
func TestModelCountsNothingRefused(t *testing.T) {
	steps := toDrain()
	stand := models(2, 28750, 750000, 32000)
	for i := range 9 {
		steps = append(steps, ccStep{ccAcked(4000, 3999, 2001, 1), stand.bad()}, ccStep{ccAcked(4000, 3999, 2000, 0), stand.bad()}, ccStep{ccAcked(-1-i, 3999, 2000, 1), stand.bad()}, ccStep{ccLost(4000, 0, 0), stand}, ccStep{ccAsk(2000), stand})
	}
	steps = append(steps, ccStep{briskly(4, 2000, 5000), models(2, 28750, 750000, 30000)})
	for i := range 3 {
		steps = append(steps, ccStep{briskly(5+i, 2000, 5000), models(2, 28750, 750000, 28000-2000*i)})
	}
	checkModelSteps(t, steps)
	few := []ccStep{{ccSent(0, 100), starts(12000, 100)}, {ccAcked(1000, 0, 101, 1), starts(12000, 100).tooMany()}, {ccAcked(1000, 0, 100, 50000), models(0, 14375, 287500, 0)}, {ccAcked(1001, 1000, 1, 1), models(0, 14375, 287500, 0).tooMany()}}
	checkModelSteps(t, few)
}

// Earlier acknowledgements count if their Time is above Sent, one by one.
func TestP11ModelSamples(t *testing.T) {
	first := []ccStep{{ccSent(0, 2000), starts(12000, 2000)}, {ccSent(0, 2000), starts(12000, 4000)}, {ccAcked(1000, 0, 1000, 10000), models(0, 28750, 2875000, 3000)}}
	for _, c := range []struct{ sent, bandwidth int }{{998, 2500000}, {999, 2500000}, {1000, 1500000}, {1001, 1500000}, {0, 2500000}, {maxTime - 1000, 1500000}} {
		checkModelSteps(t, append(first[:3:3], ccStep{ccAcked(c.sent+1000, c.sent, 1500, 10000), models(0, 23*(c.bandwidth/100)/8, 23*c.bandwidth/8, 1500)}))
	}
	// Of three earlier ones, the times of which go back, the two above Sent; those that come later or were lost count for nothing.
	checkModelSteps(t, append(laden(2),
		ccStep{ccAcked(5000, 4000, 100, 10000), models(0, 4800, 287500, 3900)}, ccStep{ccAcked(100, 0, 10, 10000), models(0, 31625, 3162500, 3890)}, ccStep{ccAcked(3001, 2001, 1, 10000), models(0, 31625, 3162500, 3889)}, ccStep{ccLost(9000, 0, 1000), models(0, 31625, 3162500, 2889)}, ccStep{ccSent(9000, 1000), models(0, 31625, 3162500, 3889)},
		ccStep{ccAcked(3010, 3000, 7, 10000), models(0, 310500, 31050000, 3882)}, ccStep{ccAcked(5010, 5000, 7, 10000), models(0, 310500, 31050000, 3875)},
	))
	// Time at Sent, one above it, below it: all of them take a microsecond; two above it are two.
	for _, c := range []struct{ time, sent, bandwidth int }{{0, 0, 3000000}, {1, 0, 3000000}, {0, 1, 3000000}, {0, maxTime, 3000000}, {2, 0, 1500000}, {3, 0, 1000000}, {4, 0, 750000}, {7, 0, 428571}, {7, 5, 1500000}, {maxTime, maxTime, 3000000}, {maxTime, 0, 0}, {3000000, 0, 1}, {3000001, 0, 0}, {2999999, 0, 1}, {1500000, 0, 2}, {1500001, 0, 1}} {
		checkModelSteps(t, []ccStep{{ccSent(0, 3), starts(12000, 3)}, {ccAcked(c.time, c.sent, 3, 1), models(0, 4800, 23*c.bandwidth/8, 0)}})
	}
}

// With a bandwidth of 1000000 the product is the floor.
func TestP11ModelWindowOfTheProduct(t *testing.T) {
	for _, c := range [][3]int{
		// The floor, the window in CcStart and CcDrain, the window in CcCruise; twice the least one at least.
		{1, 4800, 4800}, {1668, 4800, 4800}, {1669, 4800, 4800}, {1670, 4801, 4800}, {1671, 4804, 4800}, {2399, 6897, 4800}, {2400, 6900, 4800}, {2401, 6902, 4802}, {2402, 6905, 4804}, {10000, 28750, 20000}, {10001, 28752, 20002}, {10007, 28770, 20014},
		{34782608, 99999998, 69565216}, {34782609, mostWindow, 69565218}, {34782610, mostWindow, 69565220}, {49999999, mostWindow, 99999998}, {50000000, mostWindow, mostWindow}, {50000001, mostWindow, mostWindow}, {mostWindow - 1, mostWindow, mostWindow}, {mostWindow, mostWindow, mostWindow}, {mostWindow + 1, mostWindow, mostWindow}, {maxTime - 1, mostWindow, mostWindow}, {maxTime, mostWindow, mostWindow},
	} {
		trip, start, cruise := c[0], c[1], c[2]
		checkModelSteps(t, []ccStep{
			{ccSent(0, 2000), starts(12000, 2000)}, {ccLost(0, 0, 1995), starts(12000, 5)}, {ccAcked(1, 0, 1, trip), models(0, start, 2875000, 4)}, {ccAcked(2, 1, 1, trip), models(0, start, 2875000, 3)}, {ccAcked(3, 2, 1, maxTime), models(0, start, 2875000, 2)}, {ccAcked(4, 3, 1, trip), models(2, start, 375000, 1)}, {ccAcked(5, 4, 1, trip), models(3, cruise, 1250000, 0)},
		})
	}
	// A lesser Trip counts, a greater one does not.
	checkModelSteps(t, append(laden(1), ccStep{briskly(0, 100, 300000), models(0, 86250, 287500, 1900)}, ccStep{briskly(1, 100, 300001), models(0, 86250, 287500, 1800)}, ccStep{briskly(2, 100, 200000), models(0, 57500, 287500, 1700)}, ccStep{briskly(3, 200, maxTime), models(0, 115000, 575000, 1500)}, ccStep{briskly(4, 100, 199999), models(0, 114997, 575000, 1400)}))
}

// Products of bandwidth and floor that have no room in 64 bits, and some that just have.
func TestP11ModelProductsBeyond64Bits(t *testing.T) {
	for _, bytes := range []int{1, 2, 3, 9, 10, 18, 19, 922, 923, 1024, 1600, 1844, 1845, 1846, 1999, 2000} {
		for _, trip := range []int{1, 49999, 50000, 50001, 1 << 32, 1<<32 + 1, 4611686018, 4611686019, 9223372036, 9223372037, 18446744073, 18446744074, 1 << 39, 922337203685, 922337203686, maxTime - 1, maxTime} {
			ops := []impl.CcOp{ccSent(0, 2000), ccAcked(1, 0, bytes, trip)}
			got, _ := impl.CcRun(impl.CcModel, ops)
			product := atMost(times(wide(1000000*bytes), wide(trip)), wide(1000000), mostWindow)
			if want := min(max(4800, 23*product/8), mostWindow); len(got) != 2 || got[1].Window != want {
				t.Errorf("%d bytes in a microsecond, a floor of %d: %+v, want a window of %d", bytes, trip, got, want)
			}
			checkCcAsked(t, impl.CcModel, ops)
		}
	}
}

// As many bytes as a run can hold, acknowledged within one microsecond one packet after the other.
func TestP11ModelGreatestBandwidth(t *testing.T) {
	ops := slices.Repeat([]impl.CcOp{ccSent(0, 2000)}, 300)
	for k := range 300 {
		ops = append(ops, ccAcked(100, 99, 2000, 10+k%7))
	}
	checkCcAsked(t, impl.CcModel, ops)
}

func TestP11ModelRateAtMost(t *testing.T) {
	for _, c := range [][2]int{{346000, 994750000000}, {347826, 999999750000}, {347827, maxRate}, {348000, maxRate}, {570000, maxRate}} {
		checkLeap(t, c[0], 1, models(0, 23*c[0]/8, c[1], 0))
		// Also many times the product has no room in 64 bits.
		for _, trip := range []int{289, 1000000, 700000000000, maxTime} {
			checkLeap(t, c[0], trip, models(0, min(23*min(c[0]*trip, mostWindow)/8, mostWindow), c[1], 0))
		}
	}
}

// checkLeap lets bytes be acknowledged slowly, and then a sample of all of them at once, so that it stays in CcStart.
func checkLeap(t *testing.T, bytes, trip int, want ccWant) {
	t.Helper()
	var sent, acked []impl.CcOp
	for left := bytes; left > 0; left -= 2000 {
		sent = append(sent, ccSent(0, min(left, 2000)))
		acked = append(acked, ccAcked(maxTime, 0, min(left, 2000), trip))
	}
	// The first samples are 0: 600000 bytes in 1000000000000 microseconds are less than one a second.
	ops := slices.Concat(sent, acked, []impl.CcOp{ccAcked(maxTime, maxTime-1, 0, trip)})
	checkCcAsked(t, impl.CcModel, ops)
	got, _ := impl.CcRun(impl.CcModel, ops)
	if before, last := got[len(got)-2], got[len(got)-1]; before.Rate != 0 || before.State != 0 || last != impl.CcObs(want) {
		t.Errorf("%d bytes at once, a floor of %d: %+v, then %+v, want %+v", bytes, trip, before, last, want)
	}
}

// A loss changes nothing but Flight, in every state.
func TestP11ModelHeedsNoLoss(t *testing.T) {
	for _, steps := range [][]ccStep{laden(5), toDrain()[:22], toDrain(), toCruise()} {
		stand := steps[len(steps)-1].want
		for _, op := range []impl.CcOp{ccLost(0, 0, 0), ccLost(maxTime, maxTime, 1000), ccLost(1, 9, 2000), ccLost(5, 5, 2000), ccLost(9, 1, 1)} {
			op.Trip = 1
			stand.Flight -= op.Bytes
			steps = append(steps, ccStep{op, stand})
		}
		checkModelSteps(t, steps)
	}
}
