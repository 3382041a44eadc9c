package tests

import (
	"fmt"
	"math"
	"math/big"
	"testing"

	"loop.example/g00012/impl"
)

const maxTime = 1000000000000

func TestRecoveryLimits(t *testing.T) {
	for i, pair := range [][2]int{
		{impl.MaxTime, maxTime}, {impl.Granule, 1000}, {impl.InitialRtt, 333000}, {impl.PacketGap, 3}, {impl.MaxRecOps, 400}, {impl.MaxSize, 2000},
		{impl.RSent, 1}, {impl.RAck, 2}, {impl.RTimer, 3},
	} {
		if pair[0] != pair[1] {
			t.Errorf("constant %d is %d, want %d", i, pair[0], pair[1])
		}
	}
}

// trips is a Rtt with its fields in their order.
func trips(latest, least, smooth, vary int) impl.Rtt {
	return impl.Rtt{Latest: latest, Least: least, Smooth: smooth, Var: vary}
}

func isTime(v int) bool { return inRange(v, 0, maxTime) }

func rttOKAsked(r impl.Rtt) bool {
	if !isTime(r.Latest) || !isTime(r.Least) || !isTime(r.Smooth) || !isTime(r.Var) {
		return false
	}
	nothing := r.Latest == 0 && r.Least == 0 && r.Smooth == 0 && r.Var == 0
	return nothing || r.Latest != 0 && r.Least != 0 && r.Smooth != 0
}

// rttAsked goes by the chapter, word by word.
func rttAsked(r impl.Rtt, sample, delay, maxDelay int) impl.Rtt {
	if !rttOKAsked(r) || !inRange(sample, 1, maxTime) || !isTime(delay) || !isTime(maxDelay) {
		return trips(0, 0, 0, 0)
	}
	if r.Latest == 0 {
		return trips(sample, sample, sample, sample/2)
	}
	r.Latest = sample
	if sample < r.Least {
		r.Least = sample
	}
	waited := delay
	if maxDelay < delay {
		waited = maxDelay
	}
	adj := sample - waited
	if adj < r.Least {
		adj = sample
	}
	distance := r.Smooth - adj
	if distance < 0 {
		distance = -distance
	}
	r.Var = (3*r.Var + distance) / 4
	r.Smooth = (7*r.Smooth + adj) / 8
	return r
}

func lossDelayAsked(r impl.Rtt) int {
	if !rttOKAsked(r) {
		return -1
	}
	longer := r.Latest
	if r.Smooth > longer {
		longer = r.Smooth
	}
	if longer == 0 {
		longer = 333000
	}
	if delay := 9 * longer / 8; delay > 1000 {
		return delay
	}
	return 1000
}

func probeDelayAsked(r impl.Rtt, maxDelay, count int) int {
	if !rttOKAsked(r) || !isTime(maxDelay) || count < 0 {
		return -1
	}
	if r.Smooth == 0 {
		r.Smooth, r.Var = 333000, 166500
	}
	delay := r.Smooth + maxDelay
	if 4*r.Var > 1000 {
		delay += 4 * r.Var
	} else {
		delay += 1000
	}
	// 64 times doubled it is above all times.
	doubled := new(big.Int).Lsh(wide(delay), uint(min(count, 64)))
	if doubled.Cmp(wide(maxTime)) > 0 {
		return maxTime
	}
	return int(doubled.Int64())
}

func checkRtt(t *testing.T, r impl.Rtt, sample, delay, maxDelay int, want impl.Rtt) {
	t.Helper()
	if got := impl.RttStep(r, sample, delay, maxDelay); got != want {
		t.Errorf("RttStep(%v, %d, %d, %d) = %v, want %v", r, sample, delay, maxDelay, got, want)
	}
}

func checkRttAsked(t *testing.T, r impl.Rtt, sample, delay, maxDelay int) {
	t.Helper()
	checkRtt(t, r, sample, delay, maxDelay, rttAsked(r, sample, delay, maxDelay))
}

func checkLossDelay(t *testing.T, r impl.Rtt, want int) {
	t.Helper()
	if got := impl.LossDelay(r); got != want {
		t.Errorf("LossDelay(%v) = %d, want %d", r, got, want)
	}
}

func checkProbeDelay(t *testing.T, r impl.Rtt, maxDelay, count, want int) {
	t.Helper()
	if got := impl.ProbeDelay(r, maxDelay, count); got != want {
		t.Errorf("ProbeDelay(%v, %d, %d) = %d, want %d", r, maxDelay, count, got, want)
	}
}

func TestRttFirst(t *testing.T) {
	zero := impl.Rtt{}
	checkRtt(t, zero, 1, 0, 0, trips(1, 1, 1, 0))
	checkRtt(t, zero, 2, 0, 0, trips(2, 2, 2, 1))
	checkRtt(t, zero, 3, 0, 0, trips(3, 3, 3, 1))
	checkRtt(t, zero, maxTime, 0, 0, trips(maxTime, maxTime, maxTime, maxTime/2))
	checkRtt(t, zero, maxTime-1, 0, 0, trips(maxTime-1, maxTime-1, maxTime-1, 499999999999))
	// What the other side waited does not count in the first one.
	checkRtt(t, zero, 700, 300, 300, trips(700, 700, 700, 350))
	checkRtt(t, zero, 700, maxTime, maxTime, trips(700, 700, 700, 350))
	checkRtt(t, zero, 1, maxTime, 0, trips(1, 1, 1, 0))
}

func TestRttFurther(t *testing.T) {
	r := trips(800, 400, 600, 40)
	for _, c := range []struct {
		sample, delay, maxDelay int
		want                    impl.Rtt
	}{
		// Smooth and adj alike, adj above, adj below.
		{600, 0, 0, trips(600, 400, 600, 30)}, {680, 0, 0, trips(680, 400, 610, 50)}, {520, 0, 0, trips(520, 400, 590, 50)},
		// A rest is left: 40·3+1 of 4, 600·7+601 of 8; 40·3+5, 600·7+607; 599.
		{601, 0, 0, trips(601, 400, 600, 30)}, {607, 0, 0, trips(607, 400, 600, 31)}, {608, 0, 0, trips(608, 400, 601, 32)}, {599, 0, 0, trips(599, 400, 599, 30)}, {592, 0, 0, trips(592, 400, 599, 32)}, {591, 0, 0, trips(591, 400, 598, 32)},
		// A delay below, at and above the greatest one.
		{700, 19, 20, trips(700, 400, 610, 50)}, {700, 20, 20, trips(700, 400, 610, 50)}, {700, 21, 20, trips(700, 400, 610, 50)}, {700, 20, 19, trips(700, 400, 610, 50)}, {700, 16, 20, trips(700, 400, 610, 51)}, {700, maxTime, 20, trips(700, 400, 610, 50)}, {700, 20, maxTime, trips(700, 400, 610, 50)},
		{700, 0, 20, trips(700, 400, 612, 55)}, {700, 20, 0, trips(700, 400, 612, 55)},
		// adj just at the least, and one below: then it is the sample.
		{700, 300, 300, trips(700, 400, 575, 80)}, {700, 301, 301, trips(700, 400, 612, 55)}, {700, 299, 300, trips(700, 400, 575, 79)}, {700, 301, 300, trips(700, 400, 575, 80)}, {700, maxTime, maxTime, trips(700, 400, 612, 55)}, {700, 700, 700, trips(700, 400, 612, 55)}, {700, 701, 701, trips(700, 400, 612, 55)},
		// The least one is the new one there.
		{400, 0, 0, trips(400, 400, 575, 80)}, {400, 1, 1, trips(400, 400, 575, 80)}, {399, 0, 0, trips(399, 399, 574, 80)}, {399, 1, 1, trips(399, 399, 574, 80)}, {401, 1, 1, trips(401, 400, 575, 80)}, {401, 2, 2, trips(401, 400, 575, 79)},
		{1, 0, 0, trips(1, 1, 525, 179)}, {1, 1, 1, trips(1, 1, 525, 179)}, {maxTime, 0, 0, trips(maxTime, 400, 125000000525, 249999999880)}, {maxTime, maxTime, maxTime, trips(maxTime, 400, 125000000525, 249999999880)}, {maxTime, maxTime - 400, maxTime, trips(maxTime, 400, 575, 80)},
	} {
		checkRtt(t, r, c.sample, c.delay, c.maxDelay, c.want)
		checkRttAsked(t, r, c.sample, c.delay, c.maxDelay)
	}
	// Var of 0 beside a measured one; the greatest ones.
	checkRtt(t, trips(5, 5, 5, 0), 5, 0, 0, trips(5, 5, 5, 0))
	checkRtt(t, trips(5, 5, 5, 0), 9, 0, 0, trips(9, 5, 5, 1))
	checkRtt(t, trips(1, 1, 1, 0), 1, 1, 1, trips(1, 1, 1, 0))
	checkRtt(t, trips(maxTime, maxTime, maxTime, maxTime), maxTime, 0, 0, trips(maxTime, maxTime, maxTime, 750000000000))
	checkRtt(t, trips(maxTime, maxTime, maxTime, maxTime), 1, 0, 0, trips(1, 1, 875000000000, 999999999999))
	checkRtt(t, trips(1, 1, 1, maxTime), maxTime, 0, 0, trips(maxTime, 1, 125000000000, 999999999999))
	// Latest is not asked for, and Smooth may lie below Least.
	checkRtt(t, trips(1, 400, 600, 40), 700, 20, 20, trips(700, 400, 610, 50))
	checkRtt(t, trips(9, 400, 100, 0), 500, 0, 0, trips(500, 400, 150, 100))
}

// rttEdges are numbers at which a field is right no more.
func rttEdges() []int { return []int{-1, 0, 1, 2, 889, maxTime - 1, maxTime, maxTime + 1} }

// eachRtt gives all Rtts of these numbers.
func eachRtt(values []int, ask func(impl.Rtt)) {
	for _, latest := range values {
		for _, least := range values {
			for _, smooth := range values {
				for _, vary := range values {
					ask(trips(latest, least, smooth, vary))
				}
			}
		}
	}
}

func TestRttOfWhatIsValid(t *testing.T) {
	eachRtt(rttEdges(), func(r impl.Rtt) {
		for _, c := range [][3]int{{1, 0, 0}, {700, 100, 50}, {maxTime, 7, maxTime}, {0, 0, 0}, {-1, 0, 0}, {maxTime + 1, 0, 0}, {9, -1, 0}, {9, 0, -1}, {9, maxTime, 0}, {9, 0, maxTime}, {9, maxTime + 1, 0}, {9, 0, maxTime + 1}} {
			checkRttAsked(t, r, c[0], c[1], c[2])
		}
		checkLossDelay(t, r, lossDelayAsked(r))
		for _, c := range [][2]int{{0, 0}, {0, 1}, {maxTime, 0}, {5, 3}, {-1, 0}, {maxTime + 1, 0}, {0, -1}} {
			checkProbeDelay(t, r, c[0], c[1], probeDelayAsked(r, c[0], c[1]))
		}
	})
}

func TestRttRefuses(t *testing.T) {
	zero, good := impl.Rtt{}, trips(800, 400, 600, 40)
	for _, wrong := range []impl.Rtt{
		trips(0, 400, 600, 40), trips(800, 0, 600, 40), trips(800, 400, 0, 40), trips(0, 0, 600, 40), trips(0, 400, 0, 40), trips(800, 0, 0, 40), trips(0, 0, 0, 40), trips(0, 0, 0, 1), trips(1, 0, 0, 0), trips(0, 1, 0, 0), trips(0, 0, 1, 0), trips(1, 1, 0, 0),
		trips(-1, 400, 600, 40), trips(800, -1, 600, 40), trips(800, 400, -1, 40), trips(800, 400, 600, -1), trips(-1, -1, -1, -1), trips(0, 0, 0, -1),
		trips(maxTime+1, 400, 600, 40), trips(800, maxTime+1, 600, 40), trips(800, 400, maxTime+1, 40), trips(800, 400, 600, maxTime+1),
	} {
		checkRtt(t, wrong, 700, 0, 0, zero)
		checkLossDelay(t, wrong, -1)
		checkProbeDelay(t, wrong, 0, 0, -1)
	}
	for _, r := range []impl.Rtt{zero, good} {
		for _, wrong := range []int{-1, maxTime + 1, math.MinInt, math.MaxInt} {
			checkRtt(t, r, wrong, 0, 0, zero)
			checkRtt(t, r, 700, wrong, 0, zero)
			checkRtt(t, r, 700, 0, wrong, zero)
			checkProbeDelay(t, r, wrong, 0, -1)
		}
		checkRtt(t, r, 0, 0, 0, zero)
		checkProbeDelay(t, r, 0, -1, -1)
		checkProbeDelay(t, r, 0, math.MinInt, -1)
	}
}

func TestLossDelays(t *testing.T) {
	checkLossDelay(t, impl.Rtt{}, 374625)
	for _, c := range []struct{ latest, smooth, want int }{
		{1, 1, 1000}, {888, 1, 1000}, {1, 888, 1000}, {889, 1, 1000}, {1, 889, 1000}, {890, 1, 1001}, {1, 890, 1001}, {890, 890, 1001}, {888, 889, 1000}, {889, 890, 1001}, {890, 889, 1001},
		{8000, 7999, 9000}, {7999, 8000, 9000}, {8000, 8000, 9000}, {8000, 1, 9000}, {1, 8000, 9000}, {8001, 8000, 9001}, {8007, 1, 9007}, {1, 8008, 9009}, {maxTime, 1, 1125000000000}, {1, maxTime, 1125000000000}, {maxTime - 1, 1, 1124999999998},
	} {
		for _, least := range []int{1, 900, maxTime} {
			for _, vary := range []int{0, 900, maxTime} {
				checkLossDelay(t, trips(c.latest, least, c.smooth, vary), c.want)
			}
		}
	}
}

func TestProbeDelays(t *testing.T) {
	zero := impl.Rtt{}
	for _, c := range []struct{ maxDelay, count, want int }{
		{0, 0, 999000}, {1, 0, 999001}, {0, 1, 1998000}, {1, 1, 1998002}, {25000, 2, 4096000}, {0, 19, 523763712000}, {0, 20, maxTime}, {0, 21, maxTime}, {maxTime, 0, maxTime}, {maxTime - 999000, 0, maxTime}, {maxTime - 999001, 0, maxTime - 1}, {maxTime - 998999, 0, maxTime},
	} {
		checkProbeDelay(t, zero, c.maxDelay, c.count, c.want)
	}
	// Four times Var just below the granule, at it and above it.
	for _, c := range [][2]int{{0, 1500}, {1, 1500}, {249, 1500}, {250, 1500}, {251, 1504}, {1000, 4500}, {maxTime, maxTime}} {
		checkProbeDelay(t, trips(9, 9, 500, c[0]), 0, 0, c[1])
		checkProbeDelay(t, trips(maxTime, 9, 500, c[0]), 0, 0, c[1])
		checkProbeDelay(t, trips(1, maxTime, 500, c[0]), 0, 0, c[1])
	}
	// MaxTime is 244140625 twelve times doubled.
	for _, c := range []struct{ smooth, count, want int }{
		{244139625, 0, 244140625}, {244139625, 1, 488281250}, {244139625, 11, maxTime / 2}, {244139625, 12, maxTime}, {244139625, 13, maxTime},
		{244139624, 11, maxTime/2 - 2048}, {244139624, 12, maxTime - 4096}, {244139624, 13, maxTime}, {244139626, 11, maxTime/2 + 2048}, {244139626, 12, maxTime}, {maxTime, 0, maxTime}, {maxTime - 1000, 0, maxTime}, {maxTime - 1001, 0, maxTime - 1}, {1, 0, 1001}, {1, 29, 537407782912}, {1, 30, maxTime},
	} {
		checkProbeDelay(t, trips(9, 9, c.smooth, 0), 0, c.count, c.want)
	}
	for _, count := range []int{30, 31, 40, 62, 63, 64, 65, 1000, math.MaxInt - 1, math.MaxInt} {
		checkProbeDelay(t, zero, 0, count, maxTime)
		checkProbeDelay(t, trips(1, 1, 1, 0), 0, count, maxTime)
		checkProbeDelay(t, trips(maxTime, maxTime, maxTime, maxTime), maxTime, count, maxTime)
	}
}

// The probe's delay doubles with the count, up to the greatest time.
func TestProbeDelayDoubles(t *testing.T) {
	more := numbers(90)
	for range 2000 {
		r, maxDelay := drawnRtt(&more), drawnTime(&more)
		for count := range 45 {
			now, next := impl.ProbeDelay(r, maxDelay, count), impl.ProbeDelay(r, maxDelay, count+1)
			if next != min(2*now, maxTime) || now < 1001 {
				t.Fatalf("ProbeDelay(%v, %d, %d) = %d, and of one more %d", r, maxDelay, count, now, next)
			}
			checkProbeDelay(t, r, maxDelay, count, probeDelayAsked(r, maxDelay, count))
		}
	}
}

// drawnTime is a time of any width.
func drawnTime(more *numbers) int { return int(more.next()>>(24+more.below(40))) % (maxTime + 1) }

// drawnRtt is a valid one.
func drawnRtt(more *numbers) impl.Rtt {
	if more.below(10) == 0 {
		return impl.Rtt{}
	}
	return trips(max(1, drawnTime(more)), max(1, drawnTime(more)), max(1, drawnTime(more)), drawnTime(more))
}

func TestRttDrawn(t *testing.T) {
	more := numbers(91)
	for range 20000 {
		r, sample := drawnRtt(&more), max(1, drawnTime(&more))
		checkRttAsked(t, r, sample, drawnTime(&more), drawnTime(&more))
		// About the least one.
		checkRttAsked(t, r, sample, max(0, min(maxTime, sample-min(sample, r.Least)+more.below(5)-2)), maxTime)
		checkLossDelay(t, r, lossDelayAsked(r))
		got := impl.RttStep(r, sample, 0, 0)
		if again := impl.RttStep(got, sample, 0, 0); again == (impl.Rtt{}) {
			t.Fatalf("RttStep(%v, %d, 0, 0) = %v, which is not valid", r, sample, got)
		}
	}
}

// Behind any round trips the least is the least of all, and the smooth one lies between the least and the greatest.
func TestRttBehindManyTrips(t *testing.T) {
	more := numbers(92)
	for range 600 {
		var r impl.Rtt
		least, greatest, width := maxTime, 0, 1+more.below(40)
		for range 1 + more.below(60) {
			sample := 1 + int(more.next()>>(64-width))%maxTime
			least, greatest = min(least, sample), max(greatest, sample)
			r = impl.RttStep(r, sample, int(more.next()>>(64-width))%maxTime, int(more.next()>>(64-width))%maxTime)
			if r.Latest != sample || r.Least != least || !inRange(r.Smooth, least, greatest) || !inRange(r.Var, 0, greatest) {
				t.Fatalf("%v behind round trips from %d to %d, the last one %d", r, least, greatest, sample)
			}
			if delay := impl.LossDelay(r); delay < 1000 || delay < sample {
				t.Fatalf("LossDelay(%v) = %d", r, delay)
			}
		}
	}
}

func TestP1RttTakesAnyIntegers(t *testing.T) {
	good := trips(800, 400, 600, 40)
	for _, v := range oddInts() {
		mustEnd(t, fmt.Sprintf("round trips with %d", v), func() {
			for _, w := range []int{v, 0, 1, -1, 700, maxTime, maxTime + 1, math.MinInt, math.MaxInt} {
				for _, r := range []impl.Rtt{{}, good, trips(v, w, 9, 9), trips(9, v, w, 9), trips(9, 9, v, w), trips(w, 9, 9, v), trips(v, v, v, w)} {
					checkLossDelay(t, r, lossDelayAsked(r))
					for _, c := range [][3]int{{700, 0, 0}, {v, w, w}, {w, v, w}, {w, w, v}} {
						checkRttAsked(t, r, c[0], c[1], c[2])
						checkProbeDelay(t, r, c[0], c[1], probeDelayAsked(r, c[0], c[1]))
					}
				}
			}
		})
	}
}
