package tests

import (
	"fmt"
	"math"
	"math/big"
	"slices"
	"testing"

	"loop.example/g00012/impl"
)

const maxVar = impl.MaxVar

// windowOf is 256 to the n.
func windowOf(n int) int { return 1 << (8 * n) }

// wide holds sums and doubles of any integers: what is asked for here does not wrap.
func wide(v int) *big.Int { return big.NewInt(int64(v)) }

func plus(a, b *big.Int) *big.Int { return new(big.Int).Add(a, b) }

func minus(a, b *big.Int) *big.Int { return new(big.Int).Sub(a, b) }

func inRange(v, low, high int) bool { return v >= low && v <= high }

// numBytesAsked is the chapter's rule of NumBytes, word by word.
func numBytesAsked(num, acked int) int {
	if !inRange(num, 0, maxVar) || !inRange(acked, -1, num-1) {
		return 0
	}
	distance := minus(wide(num), wide(acked))
	for n := 1; n <= 4; n++ {
		if plus(distance, distance).Cmp(wide(windowOf(n))) <= 0 {
			return n
		}
	}
	return 0
}

func cutNumAsked(num, n int) int {
	if !inRange(num, 0, maxVar) || !inRange(n, 1, 4) {
		return -1
	}
	return num % windowOf(n)
}

// expandNumAsked is the chapter's rule of ExpandNum, word by word.
func expandNumAsked(largest, cut, n int) int {
	if !inRange(largest, -1, maxVar) || !inRange(n, 1, 4) || !inRange(cut, 0, windowOf(n)-1) {
		return -1
	}
	w, half, most := wide(windowOf(n)), wide(windowOf(n)/2), wide(maxVar)
	e := plus(wide(largest), wide(1))
	x := plus(minus(e, new(big.Int).Mod(e, w)), wide(cut))
	switch {
	case x.Cmp(minus(e, half)) <= 0 && plus(x, w).Cmp(most) <= 0:
		x = plus(x, w)
	case x.Cmp(plus(e, half)) > 0 && x.Cmp(w) >= 0:
		x = minus(x, w)
	}
	if x.Cmp(most) > 0 {
		return -1
	}
	return int(x.Int64())
}

func checkNumBytes(t *testing.T, num, acked, want int) {
	t.Helper()
	if got := impl.NumBytes(num, acked); got != want {
		t.Errorf("NumBytes(%d, %d) = %d, want %d", num, acked, got, want)
	}
}

func checkCutNum(t *testing.T, num, n, want int) {
	t.Helper()
	if got := impl.CutNum(num, n); got != want {
		t.Errorf("CutNum(%d, %d) = %d, want %d", num, n, got, want)
	}
}

func checkExpandNum(t *testing.T, largest, cut, n, want int) {
	t.Helper()
	if got := impl.ExpandNum(largest, cut, n); got != want {
		t.Errorf("ExpandNum(%d, %d, %d) = %d, want %d", largest, cut, n, got, want)
	}
}

// checkTold asks whether one whose greatest number is largest takes num, cut to n bytes, for want.
func checkTold(t *testing.T, num, n, largest, want int) {
	t.Helper()
	if got := impl.ExpandNum(largest, impl.CutNum(num, n), n); got != want {
		t.Errorf("%d in %d bytes is told as %d to one who got %d, want %d", num, n, got, largest, want)
	}
}

func TestP3NumBytesEdges(t *testing.T) {
	for n := 1; n <= 4; n++ {
		most := windowOf(n) / 2
		beyond := (n + 1) % 5
		for _, acked := range []int{-1, 0, 1, 1000000, maxVar - most - 1} {
			checkNumBytes(t, acked+most, acked, n)
			checkNumBytes(t, acked+most+1, acked, beyond)
		}
		checkNumBytes(t, maxVar, maxVar-most, n)
		checkNumBytes(t, maxVar, maxVar-most-1, beyond)
	}
	checkNumBytes(t, 0, -1, 1)
	checkNumBytes(t, 1, 0, 1)
	checkNumBytes(t, maxVar, maxVar-1, 1)
	checkNumBytes(t, maxVar, 0, 0)
	checkNumBytes(t, maxVar, -1, 0)
}

func TestP3NumBytesWrong(t *testing.T) {
	for _, c := range [][2]int{
		{-1, -1}, {-1, -2}, {-2, -1}, {maxVar + 1, maxVar}, {maxVar + 1, 0}, {maxVar + 2, maxVar + 1},
		{0, -2}, {5, -2}, {maxVar, -2}, {0, 0}, {0, 1}, {5, 5}, {5, 6}, {maxVar, maxVar}, {maxVar, maxVar + 1},
		{math.MinInt, -1}, {math.MinInt, math.MinInt}, {math.MinInt, math.MaxInt}, {math.MaxInt, math.MaxInt - 1},
		{math.MaxInt, math.MinInt}, {math.MaxInt, math.MaxInt}, {0, math.MinInt}, {0, math.MaxInt}, {maxVar, math.MinInt}, {maxVar, math.MaxInt},
	} {
		checkNumBytes(t, c[0], c[1], 0)
	}
}

func TestP3CutNumEdges(t *testing.T) {
	for n := 1; n <= 4; n++ {
		w := windowOf(n)
		for _, c := range [][2]int{
			{0, 0}, {1, 1}, {w - 1, w - 1}, {w, 0}, {w + 1, 1}, {2*w - 1, w - 1}, {2 * w, 0},
			{maxVar, w - 1}, {maxVar - 1, w - 2}, {maxVar - w + 1, 0}, {maxVar - w, w - 1},
		} {
			checkCutNum(t, c[0], n, c[1])
		}
	}
	checkCutNum(t, 0x0123456789abcdef, 1, 0xef)
	checkCutNum(t, 0x0123456789abcdef, 2, 0xcdef)
	checkCutNum(t, 0x0123456789abcdef, 3, 0xabcdef)
	checkCutNum(t, 0x0123456789abcdef, 4, 0x89abcdef)
}

func TestP3CutNumWrong(t *testing.T) {
	for n := 1; n <= 4; n++ {
		for _, num := range []int{-1, -2, -256, maxVar + 1, maxVar + 2, math.MinInt, math.MaxInt} {
			checkCutNum(t, num, n, -1)
		}
	}
	for _, n := range []int{0, -1, 5, 6, 8, 64, 257, 1<<32 + 1, math.MinInt, math.MinInt + 1, math.MaxInt} {
		for _, num := range []int{0, 1, 300, maxVar} {
			checkCutNum(t, num, n, -1)
		}
	}
}

// Both sides of a window in the midst of all numbers: x just at e - W/2 is put a window up, x just at e + W/2 stays.
func TestP3ExpandNumWindow(t *testing.T) {
	for n := 1; n <= 4; n++ {
		w := windowOf(n)
		base := 3 * w
		for _, inside := range []int{0, 1, w/2 - 1, w / 2, w/2 + 1, w - 2, w - 1} {
			e := base + inside
			for _, c := range [][2]int{
				{e, e}, {e - 1, e - 1}, {e + 1, e + 1},
				{e - w/2 + 1, e - w/2 + 1}, {e + w/2 - 1, e + w/2 - 1},
			} {
				checkExpandNum(t, e-1, c[0]%w, n, c[1])
			}
			// The two ends have one rest: below the middle of the window it is the x above, else the x below, put up.
			checkExpandNum(t, e-1, (e+w/2)%w, n, e+w/2)
		}
	}
	checkExpandNum(t, 3*256+127, 0, 1, 4*256)
	checkExpandNum(t, 3*256+126, 0, 1, 3*256)
	checkExpandNum(t, 3*256+127, 1, 1, 3*256+1)
	checkExpandNum(t, 3*256-1, 128, 1, 3*256+128)
	checkExpandNum(t, 3*256-1, 129, 1, 2*256+129)
	checkExpandNum(t, 3*256-1, 255, 1, 3*256-1)
}

// Near 0 there is no window below: x stays, however far above e it is.
func TestP3ExpandNumNearZero(t *testing.T) {
	for n := 1; n <= 4; n++ {
		w := windowOf(n)
		for _, c := range [][3]int{
			{-1, 0, 0}, {-1, 1, 1}, {-1, w / 2, w / 2}, {-1, w/2 + 1, w/2 + 1}, {-1, w - 1, w - 1},
			{0, 0, 0}, {0, 1, 1}, {0, w/2 + 2, w/2 + 2}, {0, w - 1, w - 1},
			{w/2 - 2, 0, 0}, {w/2 - 2, w - 1, w - 1}, {w/2 - 1, 0, w}, {w/2 - 1, 1, 1}, {w / 2, 1, w + 1}, {w / 2, 2, 2},
			{w - 2, 0, w}, {w - 2, w/2 - 1, w + w/2 - 1}, {w - 2, w / 2, w / 2}, {w - 2, w - 1, w - 1},
			{w - 1, 0, w}, {w - 1, w / 2, w + w/2}, {w - 1, w/2 + 1, w/2 + 1}, {w - 1, w - 1, w - 1},
		} {
			checkExpandNum(t, c[0], c[1], n, c[2])
		}
	}
}

// Near MaxVar there is no window above: x stays where it is, and what is above MaxVar itself is none.
func TestP3ExpandNumNearMaxVar(t *testing.T) {
	for n := 1; n <= 4; n++ {
		w := windowOf(n)
		last := maxVar - w + 1
		for _, c := range [][3]int{
			{maxVar - 1, 0, last}, {maxVar - 1, w/2 - 1, last + w/2 - 1}, {maxVar - 1, w / 2, last + w/2}, {maxVar - 1, w - 1, maxVar},
			{maxVar, 0, -1}, {maxVar, 1, -1}, {maxVar, w / 2, -1}, {maxVar, w/2 + 1, last + w/2 + 1}, {maxVar, w - 1, maxVar},
			{last - 1, 0, last}, {last - 1, w / 2, last + w/2}, {last - 1, w/2 + 1, last - w + w/2 + 1},
			{last - 2, w/2 - 1, last + w/2 - 1}, {last - 2, w - 1, last - 1},
			{last + w/2 - 1, 0, last}, {last + w/2 - 1, w - 1, maxVar},
		} {
			checkExpandNum(t, c[0], c[1], n, c[2])
		}
	}
}

func TestP3ExpandNumWrong(t *testing.T) {
	extremes := []int{math.MinInt, math.MinInt + 1, math.MaxInt - 1, math.MaxInt}
	for n := 1; n <= 4; n++ {
		for _, largest := range append([]int{-2, -3, maxVar + 1, maxVar + 2}, extremes...) {
			checkExpandNum(t, largest, 0, n, -1)
		}
		for _, cut := range append([]int{-1, -2, windowOf(n), windowOf(n) + 1, maxVar, maxVar + 1}, extremes...) {
			checkExpandNum(t, -1, cut, n, -1)
			checkExpandNum(t, 300, cut, n, -1)
			checkExpandNum(t, maxVar, cut, n, -1)
		}
	}
	for _, n := range append([]int{-1, 0, 5, 6, 8, 64, 257, 1<<32 + 1}, extremes...) {
		checkExpandNum(t, -1, 0, n, -1)
		checkExpandNum(t, 300, 44, n, -1)
	}
}

// greatestGot are numbers within the promise, its two ends among them, to one whose number is num.
func greatestGot(num, acked, n int, more *numbers) []int {
	high := min(num+windowOf(n)/2-2, maxVar)
	list := []int{acked, acked + 1, num - 1, num, num + 1, high - 1, high, acked + more.below(high-acked+1)}
	return slices.DeleteFunc(list, func(v int) bool { return v < acked || v > high })
}

func checkToldRightly(t *testing.T, num, acked int, more *numbers) {
	t.Helper()
	n := impl.NumBytes(num, acked)
	if n != numBytesAsked(num, acked) || n == 0 {
		t.Errorf("NumBytes(%d, %d) = %d", num, acked, n)
		return
	}
	for _, largest := range greatestGot(num, acked, n, more) {
		checkTold(t, num, n, largest, num)
	}
}

func TestP3ToldRightly(t *testing.T) {
	more := numbers(3)
	for n := 1; n <= 4; n++ {
		w := windowOf(n)
		for _, distance := range []int{1, 2, w/512 + 1, w/2 - 1, w / 2, 1 + more.below(w/2)} {
			for _, acked := range []int{-1, 0, 1, w/2 - 1, w / 2, w - 1, w, 5*w - 1, more.variable(), maxVar - distance - w, maxVar - distance - 1, maxVar - distance} {
				if acked+distance <= maxVar {
					checkToldRightly(t, acked+distance, acked, &more)
				}
			}
		}
	}
	for range 20000 {
		acked, distance := more.variable()-1, 1+more.variable()>>31
		if acked+distance <= maxVar && numBytesAsked(acked+distance, acked) != 0 {
			checkToldRightly(t, acked+distance, acked, &more)
		}
	}
}

// Every number of one byte's window, to every one who may have got a number in it.
func TestP3ToldRightlyAll(t *testing.T) {
	for acked := -1; acked <= 600; acked++ {
		for num := acked + 1; num <= acked+128; num += 1 + num%5 {
			n := impl.NumBytes(num, acked)
			if n != 1 {
				t.Fatalf("NumBytes(%d, %d) = %d", num, acked, n)
			}
			for largest := acked; largest <= num+126; largest++ {
				checkTold(t, num, n, largest, num)
			}
		}
	}
}

// One above the promise is told wrongly, a window up; below it the rule holds for one more number, then it is a window down.
func TestP3OutsideTheWindow(t *testing.T) {
	for n := 1; n <= 4; n++ {
		w := windowOf(n)
		for _, num := range []int{2 * w, 2*w + 1, 3*w - 1, 5*w + w/2, maxVar - 2*w} {
			checkTold(t, num, n, num+w/2-2, num)
			checkTold(t, num, n, num+w/2-1, num+w)
			acked := num - w/2
			checkTold(t, num, n, acked, num)
			checkTold(t, num, n, acked-1, num)
			checkTold(t, num, n, acked-2, num-w)
		}
		// Where there is no window above or below, what is outside is told rightly too.
		checkTold(t, maxVar, n, maxVar-w/2, maxVar)
		checkTold(t, maxVar-w+1, n, maxVar-w/2, maxVar-w+1)
		checkTold(t, w-1, n, -1, w-1)
	}
}

func TestP3AsTheChapterSays(t *testing.T) {
	var places []int
	for n := 1; n <= 4; n++ {
		w := windowOf(n)
		for _, p := range []int{0, w / 2, w, w + w/2, 7 * w, maxVar - w, maxVar - w/2, maxVar} {
			places = append(places, p-2, p-1, p, p+1, p+2)
		}
	}
	more := numbers(4)
	for range 100 {
		places = append(places, more.variable())
	}
	for _, a := range places {
		for _, b := range places {
			checkNumBytes(t, a, b, numBytesAsked(a, b))
			for n := 0; n <= 5; n++ {
				checkExpandNum(t, a, b, n, expandNumAsked(a, b, n))
				if inRange(n, 1, 4) {
					cut := b & (windowOf(n) - 1)
					checkExpandNum(t, a, cut, n, expandNumAsked(a, cut, n))
				}
			}
		}
	}
}

func TestP1PacketNumbersTakeAnyIntegers(t *testing.T) {
	odd := append(oddInts(), maxVar-1, maxVar, maxVar+1, -1, -2)
	for _, a := range odd {
		for _, b := range odd {
			mustEnd(t, fmt.Sprintf("NumBytes(%d, %d)", a, b), func() { checkNumBytes(t, a, b, numBytesAsked(a, b)) })
			mustEnd(t, fmt.Sprintf("CutNum(%d, %d)", a, b), func() { checkCutNum(t, a, b, cutNumAsked(a, b)) })
			for _, n := range []int{math.MinInt, -1, 0, 1, 2, 3, 4, 5, math.MaxInt} {
				mustEnd(t, fmt.Sprintf("ExpandNum(%d, %d, %d)", a, b, n), func() { checkExpandNum(t, a, b, n, expandNumAsked(a, b, n)) })
			}
		}
		mustEnd(t, fmt.Sprintf("ExpandNum(0, 0, %d)", a), func() { checkExpandNum(t, 0, 0, a, expandNumAsked(0, 0, a)) })
	}
}
