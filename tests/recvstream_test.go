package tests

import (
	"bytes"
	"fmt"
	"math"
	"slices"
	"testing"

	"loop.example/g00012/impl"
)

func TestStreamLimits(t *testing.T) {
	for i, pair := range [][2]int{
		{impl.MaxStreamOps, 400}, {impl.MaxStreamBytes, 65536}, {impl.MaxWindow, 16384},
		{impl.RsRecv, 0}, {impl.RsSized, 1}, {impl.RsAll, 2}, {impl.RsRead, 3}, {impl.RsReset, 4}, {impl.RsCut, 5},
		{impl.RData, 1}, {impl.RReset, 2}, {impl.RRead, 3},
		{impl.SsReady, 0}, {impl.SsSend, 1}, {impl.SsSent, 2}, {impl.SsDone, 3}, {impl.SsReset, 4}, {impl.SsCut, 5},
		{impl.SWrite, 1}, {impl.SFinish, 2}, {impl.SCredit, 3}, {impl.SPull, 4}, {impl.SAcked, 5}, {impl.SLost, 6}, {impl.SReset, 7}, {impl.SResetAcked, 8},
	} {
		if pair[0] != pair[1] {
			t.Errorf("constant %d is %d, want %d", i, pair[0], pair[1])
		}
	}
}

const mostCredited = maxVar - 16384

func creditAsked(read, window, told int) int {
	switch {
	case !inRange(read, 0, mostCredited) || !inRange(told, 0, mostCredited) || !inRange(window, 1, 16384):
		return -1
	case read+window >= told+(window+1)/2:
		return read + window
	}
	return told
}

func checkCredit(t *testing.T, read, window, told, want int) {
	t.Helper()
	if got := impl.CreditNext(read, window, told); got != want {
		t.Errorf("CreditNext(%d, %d, %d) = %d, want %d", read, window, told, got, want)
	}
}

func TestCreditNextJustEnough(t *testing.T) {
	for _, c := range []struct{ window, half int }{{1, 1}, {2, 1}, {3, 2}, {4, 2}, {5, 3}, {10, 5}, {11, 6}, {16383, 8192}, {16384, 8192}} {
		for _, read := range []int{0, 1, 7, 100, 16384, 1 << 40, mostCredited - 1, mostCredited} {
			sum := read + c.window
			for _, told := range []int{sum - c.half, sum - c.half - 1, 0} {
				if inRange(told, 0, min(mostCredited, sum-c.half)) {
					checkCredit(t, read, c.window, told, sum)
				}
			}
			for _, told := range []int{sum - c.half + 1, sum, sum + 1, mostCredited} {
				if inRange(told, max(0, sum-c.half+1), mostCredited) {
					checkCredit(t, read, c.window, told, told)
				}
			}
		}
	}
}

func TestCreditNextEnds(t *testing.T) {
	for _, window := range []int{1, 2, 16383, 16384} {
		checkCredit(t, 0, window, 0, window)
		checkCredit(t, mostCredited, window, 0, mostCredited+window)
		checkCredit(t, mostCredited, window, mostCredited, mostCredited+window)
		checkCredit(t, 0, window, mostCredited, mostCredited)
		for _, wrong := range []int{-1, math.MinInt, mostCredited + 1, maxVar, maxVar + 1, math.MaxInt} {
			checkCredit(t, wrong, window, 0, -1)
			checkCredit(t, 0, window, wrong, -1)
			checkCredit(t, wrong, window, wrong, -1)
		}
	}
	for _, window := range []int{0, -1, 16385, math.MinInt, math.MaxInt} {
		for _, v := range []int{0, 1, mostCredited} {
			checkCredit(t, v, window, 0, -1)
			checkCredit(t, 0, window, v, -1)
			checkCredit(t, v, window, v, -1)
		}
	}
}

func TestCreditNextOfSmallNumbers(t *testing.T) {
	for read := -2; read < 20; read++ {
		for window := -2; window < 20; window++ {
			for told := -2; told < 45; told++ {
				checkCredit(t, read, window, told, creditAsked(read, window, told))
			}
		}
	}
}

func TestP1CreditNextTakesAnyIntegers(t *testing.T) {
	odd := append(oddInts(), mostCredited-1, mostCredited, mostCredited+1)
	for _, read := range odd {
		for _, told := range odd {
			for _, window := range []int{math.MinInt, -1, 0, 1, 2, 9, 16384, 16385, math.MaxInt} {
				checkCredit(t, read, window, told, creditAsked(read, window, told))
			}
			checkCredit(t, 0, read, told, creditAsked(0, read, told))
		}
	}
}

// askedReceiver goes by the chapter, word by word, and keeps each byte that came under its offset.
type askedReceiver struct {
	window, told, state, read, greatest int
	final                               int
	finalKnown                          bool
	came                                map[int]byte
}

func newAskedReceiver(window int) *askedReceiver {
	return &askedReceiver{window: window, told: window, came: map[int]byte{}}
}

func (r *askedReceiver) allCame() bool {
	for at := range r.final {
		if _, ok := r.came[at]; !ok {
			return false
		}
	}
	return true
}

func (r *askedReceiver) data(op impl.RecvOp) int {
	count := len(op.Data)
	if count > 1500 || !inRange(op.Off, 0, maxVar-count) {
		return impl.ErrBad
	}
	end := op.Off + count
	switch {
	case end > r.told:
		return impl.ErrFlow
	case r.finalKnown && end > r.final, r.finalKnown && op.Fin && end != r.final, op.Fin && end < r.greatest:
		return impl.ErrFinal
	case r.state != impl.RsRecv && r.state != impl.RsSized:
		return impl.OK
	}
	r.greatest = max(r.greatest, end)
	for i, value := range op.Data {
		if _, ok := r.came[op.Off+i]; !ok {
			r.came[op.Off+i] = value
		}
	}
	if op.Fin {
		r.final, r.finalKnown, r.state = end, true, impl.RsSized
	}
	if r.finalKnown && r.allCame() {
		r.state = impl.RsAll
	}
	return impl.OK
}

func (r *askedReceiver) reset(op impl.RecvOp) int {
	switch {
	case !inRange(op.N, 0, maxVar):
		return impl.ErrBad
	case op.N > r.told:
		return impl.ErrFlow
	case r.finalKnown && op.N != r.final, op.N < r.greatest:
		return impl.ErrFinal
	}
	r.final, r.finalKnown = op.N, true
	if r.state == impl.RsRecv || r.state == impl.RsSized {
		r.state = impl.RsReset
	}
	return impl.OK
}

func (r *askedReceiver) take(op impl.RecvOp) ([]byte, int) {
	switch {
	case op.N < 1:
		return nil, impl.ErrBad
	case r.state == impl.RsReset || r.state == impl.RsCut:
		r.state = impl.RsCut
		return nil, impl.ErrCancel
	}
	var data []byte
	for len(data) < op.N {
		value, ok := r.came[r.read]
		if !ok {
			break
		}
		data = append(data, value)
		r.read++
	}
	if r.state == impl.RsAll && r.read == r.final {
		r.state = impl.RsRead
	}
	if r.state == impl.RsRecv {
		r.told = creditAsked(r.read, r.window, r.told)
	}
	return data, impl.OK
}

func (r *askedReceiver) run(op impl.RecvOp) impl.RecvObs {
	obs := impl.RecvObs{Code: impl.ErrBad}
	switch op.Kind {
	case 1:
		obs.Code = r.data(op)
	case 2:
		obs.Code = r.reset(op)
	case 3:
		obs.Data, obs.Code = r.take(op)
		obs.End = obs.Code == impl.OK && r.state == impl.RsRead
	}
	obs.State, obs.Told = r.state, r.told
	return obs
}

func sameRecvObs(a, b impl.RecvObs) bool {
	return a.Code == b.Code && a.State == b.State && a.Told == b.Told && bytes.Equal(a.Data, b.Data) && a.End == b.End
}

// shortBytes does not fill a page with many bytes.
func shortBytes(b []byte) string {
	if len(b) > 60 {
		return fmt.Sprintf("%d bytes %q..", len(b), b[:20])
	}
	return fmt.Sprintf("%q", b)
}

func toldRecvObs(o impl.RecvObs) string {
	return fmt.Sprintf("{Code %d State %d Told %d Data %s End %v}", o.Code, o.State, o.Told, shortBytes(o.Data), o.End)
}

func checkRecv(t *testing.T, window int, ops []impl.RecvOp, want []impl.RecvObs) {
	t.Helper()
	got, code := impl.RecvRun(window, ops)
	if code != impl.OK || len(got) != len(want) {
		t.Errorf("RecvRun(%d, %d operations) = %d answers, code %d", window, len(ops), len(got), code)
		return
	}
	for i := range want {
		if !sameRecvObs(got[i], want[i]) {
			t.Errorf("RecvRun(%d), answer %d = %s, want %s, of\n  %s", window, i, toldRecvObs(got[i]), toldRecvObs(want[i]), toldOps(asSends(ops[:i+1])))
			return
		}
	}
}

func checkRecvAsked(t *testing.T, window int, ops []impl.RecvOp) {
	t.Helper()
	r := newAskedReceiver(window)
	var want []impl.RecvObs
	for _, op := range ops {
		want = append(want, r.run(op))
	}
	checkRecv(t, window, ops, want)
}

func refusesRecv(t *testing.T, window int, ops []impl.RecvOp, code int) {
	t.Helper()
	if got, gotCode := impl.RecvRun(window, ops); gotCode != code || len(got) != 0 {
		t.Errorf("RecvRun(%d, %d operations) = %d answers, code %d, want code %d alone", window, len(ops), len(got), gotCode, code)
	}
}

func dataOp(off int, text string) impl.RecvOp {
	return impl.RecvOp{Kind: 1, Off: off, Data: []byte(text)}
}

func finOp(off int, text string) impl.RecvOp {
	return impl.RecvOp{Kind: 1, Off: off, Data: []byte(text), Fin: true}
}

func readOp(n int) impl.RecvOp { return impl.RecvOp{Kind: 3, N: n} }

func resetOp(n int) impl.RecvOp { return impl.RecvOp{Kind: 2, N: n} }

// recvStep is an operation and what is to be answered to it.
type recvStep struct {
	op                impl.RecvOp
	code, state, told int
	data              string
	end               bool
}

// checkRecvSteps runs each beginning of the steps too: no answer hangs on what comes behind it.
func checkRecvSteps(t *testing.T, window int, steps []recvStep) {
	t.Helper()
	var ops []impl.RecvOp
	var want []impl.RecvObs
	for _, s := range steps {
		ops = append(ops, s.op)
		want = append(want, impl.RecvObs{Code: s.code, State: s.state, Told: s.told, Data: []byte(s.data), End: s.end})
		checkRecv(t, window, ops, want)
	}
	checkRecvAsked(t, window, ops)
}

func TestP7FinOnItsOwn(t *testing.T) {
	for _, steps := range [][]recvStep{
		{{finOp(0, ""), 0, 2, 10, "", false}, {readOp(1), 0, 3, 10, "", true}, {readOp(9), 0, 3, 10, "", true}},
		{{readOp(1), 0, 0, 10, "", false}, {finOp(0, ""), 0, 2, 10, "", false}, {readOp(1), 0, 3, 10, "", true}},
		// Ahead of the bytes.
		{
			{finOp(3, ""), 0, 1, 10, "", false}, {readOp(5), 0, 1, 10, "", false}, {dataOp(1, "bc"), 0, 1, 10, "", false}, {readOp(5), 0, 1, 10, "", false},
			{dataOp(0, "a"), 0, 2, 10, "", false}, {readOp(2), 0, 2, 10, "ab", false}, {readOp(2), 0, 3, 10, "c", true}, {readOp(2), 0, 3, 10, "", true},
		},
		{{finOp(10, ""), 0, 1, 10, "", false}, {dataOp(0, "0123456789"), 0, 2, 10, "", false}, {readOp(10), 0, 3, 10, "0123456789", true}},
		// Behind them, read and not read.
		{{dataOp(0, "abc"), 0, 0, 10, "", false}, {readOp(3), 0, 0, 10, "abc", false}, {finOp(3, ""), 0, 2, 10, "", false}, {readOp(1), 0, 3, 10, "", true}},
		{{dataOp(0, "abc"), 0, 0, 10, "", false}, {finOp(3, ""), 0, 2, 10, "", false}, {readOp(9), 0, 3, 10, "abc", true}},
		{{dataOp(0, "abc"), 0, 0, 10, "", false}, {readOp(1), 0, 0, 10, "a", false}, {finOp(3, ""), 0, 2, 10, "", false}, {readOp(2), 0, 3, 10, "bc", true}},
	} {
		checkRecvSteps(t, 10, steps)
	}
}

func TestP7FinWithBytes(t *testing.T) {
	for _, steps := range [][]recvStep{
		{{finOp(0, "abc"), 0, 2, 10, "", false}, {readOp(3), 0, 3, 10, "abc", true}},
		{{finOp(0, "abc"), 0, 2, 10, "", false}, {readOp(1), 0, 2, 10, "a", false}, {readOp(1), 0, 2, 10, "b", false}, {readOp(1), 0, 3, 10, "c", true}, {readOp(1), 0, 3, 10, "", true}},
		{{finOp(3, "de"), 0, 1, 10, "", false}, {dataOp(0, "ab"), 0, 1, 10, "", false}, {readOp(9), 0, 1, 10, "ab", false}, {dataOp(2, "c"), 0, 2, 10, "", false}, {readOp(9), 0, 3, 10, "cde", true}},
		{{dataOp(0, "abc"), 0, 0, 10, "", false}, {readOp(9), 0, 0, 10, "abc", false}, {finOp(0, "xyzde"), 0, 2, 10, "", false}, {readOp(9), 0, 3, 10, "de", true}},
		// Again at the same end, with bytes that have come and that have not.
		{
			{finOp(3, ""), 0, 1, 10, "", false}, {finOp(3, ""), 0, 1, 10, "", false}, {finOp(2, "c"), 0, 1, 10, "", false}, {finOp(1, "bX"), 0, 1, 10, "", false},
			{finOp(0, "aXX"), 0, 2, 10, "", false}, {finOp(3, ""), 0, 2, 10, "", false}, {readOp(9), 0, 3, 10, "abc", true}, {finOp(3, ""), 0, 3, 10, "", false},
		},
	} {
		checkRecvSteps(t, 10, steps)
	}
}

func TestP7TwoFinalSizes(t *testing.T) {
	final := impl.ErrFinal
	for _, steps := range [][]recvStep{
		// Another end than the first Fin's, with and without Fin.
		{
			{finOp(3, ""), 0, 1, 10, "", false}, {finOp(2, ""), final, 1, 10, "", false}, {finOp(4, ""), final, 1, 10, "", false}, {finOp(0, "ab"), final, 1, 10, "", false},
			{finOp(0, "abcd"), final, 1, 10, "", false}, {finOp(0, ""), final, 1, 10, "", false}, {dataOp(3, "d"), final, 1, 10, "", false}, {dataOp(2, "cd"), final, 1, 10, "", false},
			{dataOp(4, ""), final, 1, 10, "", false}, {readOp(9), 0, 1, 10, "", false}, {dataOp(3, ""), 0, 1, 10, "", false}, {dataOp(0, ""), 0, 1, 10, "", false}, {dataOp(0, "abc"), 0, 2, 10, "", false},
			{dataOp(3, "d"), final, 2, 10, "", false}, {finOp(2, ""), final, 2, 10, "", false}, {readOp(9), 0, 3, 10, "abc", true}, {dataOp(3, "d"), final, 3, 10, "", false}, {finOp(2, ""), final, 3, 10, "", false},
		},
		// Fin below the greatest end: nothing of it is kept.
		{
			{dataOp(2, "cd"), 0, 0, 10, "", false}, {finOp(3, ""), final, 0, 10, "", false}, {finOp(0, "abc"), final, 0, 10, "", false}, {finOp(0, ""), final, 0, 10, "", false},
			{readOp(9), 0, 0, 10, "", false}, {finOp(4, ""), 0, 1, 10, "", false}, {dataOp(0, "ab"), 0, 2, 10, "", false}, {readOp(9), 0, 3, 10, "abcd", true},
		},
		// What was read counts for the greatest end too.
		{{dataOp(0, "abcd"), 0, 0, 10, "", false}, {readOp(9), 0, 0, 10, "abcd", false}, {finOp(3, ""), final, 0, 10, "", false}, {finOp(4, ""), 0, 2, 10, "", false}},
		// A piece without bytes has an end too.
		{{dataOp(5, ""), 0, 0, 10, "", false}, {finOp(4, ""), final, 0, 10, "", false}, {resetOp(4), final, 0, 10, "", false}, {finOp(5, ""), 0, 1, 10, "", false}},
		// What was refused doesn't count for it.
		{{dataOp(8, "abc"), impl.ErrFlow, 0, 10, "", false}, {finOp(0, "ab"), 0, 2, 10, "", false}},
		{{finOp(8, "abc"), impl.ErrFlow, 0, 10, "", false}, {finOp(0, "ab"), 0, 2, 10, "", false}, {readOp(2), 0, 3, 10, "ab", true}},
	} {
		checkRecvSteps(t, 10, steps)
	}
}

func TestP7TheFirstByteCounts(t *testing.T) {
	for _, steps := range [][]recvStep{
		{{dataOp(0, "abc"), 0, 0, 10, "", false}, {dataOp(0, "xyz"), 0, 0, 10, "", false}, {dataOp(1, "uvw"), 0, 0, 10, "", false}, {readOp(9), 0, 0, 10, "abcw", false}},
		{{dataOp(0, "ab"), 0, 0, 10, "", false}, {readOp(2), 0, 0, 10, "ab", false}, {dataOp(0, "xyc"), 0, 0, 10, "", false}, {readOp(9), 0, 0, 10, "c", false}, {dataOp(0, "vw"), 0, 0, 10, "", false}, {readOp(9), 0, 0, 10, "", false}},
		{{dataOp(1, "b"), 0, 0, 10, "", false}, {dataOp(3, "d"), 0, 0, 10, "", false}, {dataOp(0, "aXcXe"), 0, 0, 10, "", false}, {readOp(9), 0, 0, 15, "abcde", false}},
		// A byte that is 0 has come too.
		{{dataOp(0, "\x00"), 0, 0, 10, "", false}, {dataOp(0, "ab"), 0, 0, 10, "", false}, {readOp(9), 0, 0, 10, "\x00b", false}},
	} {
		checkRecvSteps(t, 10, steps)
	}
}

func TestP7Reads(t *testing.T) {
	checkRecvSteps(t, 20, []recvStep{
		{readOp(1), 0, 0, 20, "", false}, {dataOp(2, "cd"), 0, 0, 20, "", false}, {readOp(math.MaxInt), 0, 0, 20, "", false}, {dataOp(0, "a"), 0, 0, 20, "", false},
		{readOp(5), 0, 0, 20, "a", false}, {readOp(5), 0, 0, 20, "", false}, {dataOp(5, "f"), 0, 0, 20, "", false}, {dataOp(1, "b"), 0, 0, 20, "", false}, {readOp(1), 0, 0, 20, "b", false},
		{readOp(2), 0, 0, 20, "cd", false}, {readOp(2), 0, 0, 20, "", false}, {dataOp(4, "e"), 0, 0, 20, "", false}, {readOp(3), 0, 0, 20, "ef", false},
	})
	for _, wrong := range []int{0, -1, math.MinInt} {
		checkRecvSteps(t, 20, []recvStep{
			{readOp(wrong), impl.ErrBad, 0, 20, "", false}, {dataOp(0, "ab"), 0, 0, 20, "", false}, {readOp(wrong), impl.ErrBad, 0, 20, "", false}, {finOp(3, ""), 0, 1, 20, "", false}, {readOp(wrong), impl.ErrBad, 1, 20, "", false},
			{dataOp(2, "c"), 0, 2, 20, "", false}, {readOp(wrong), impl.ErrBad, 2, 20, "", false}, {readOp(4), 0, 3, 20, "abc", true}, {readOp(wrong), impl.ErrBad, 3, 20, "", false},
		})
	}
}

func TestRecvCredit(t *testing.T) {
	flow := impl.ErrFlow
	checkRecvSteps(t, 10, []recvStep{
		{dataOp(1, "0123456789"), flow, 0, 10, "", false}, {dataOp(10, "x"), flow, 0, 10, "", false}, {dataOp(11, ""), flow, 0, 10, "", false}, {finOp(11, ""), flow, 0, 10, "", false}, {dataOp(10, ""), 0, 0, 10, "", false},
		{dataOp(0, "0123456789"), 0, 0, 10, "", false}, {readOp(4), 0, 0, 10, "0123", false}, {dataOp(10, "a"), flow, 0, 10, "", false}, {readOp(1), 0, 0, 15, "4", false},
		{dataOp(10, "abcdef"), flow, 0, 15, "", false}, {dataOp(10, "abcde"), 0, 0, 15, "", false}, {dataOp(16, ""), flow, 0, 15, "", false}, {dataOp(15, ""), 0, 0, 15, "", false},
		{readOp(4), 0, 0, 15, "5678", false}, {readOp(9), 0, 0, 25, "9abcde", false}, {finOp(25, ""), 0, 1, 25, "", false},
		// With the size known no more credit is told.
		{dataOp(15, "0123456789"), 0, 2, 25, "", false}, {readOp(9), 0, 2, 25, "012345678", false}, {readOp(9), 0, 3, 25, "9", true}, {dataOp(26, ""), flow, 3, 25, "", false},
	})
	checkRecvSteps(t, 10, []recvStep{
		{finOp(9, ""), 0, 1, 10, "", false}, {dataOp(0, "0123456"), 0, 1, 10, "", false}, {readOp(9), 0, 1, 10, "0123456", false}, {readOp(9), 0, 1, 10, "", false},
	})
	// An odd window, and the least one.
	checkRecvSteps(t, 5, []recvStep{
		{dataOp(0, "01234"), 0, 0, 5, "", false}, {readOp(2), 0, 0, 5, "01", false}, {readOp(1), 0, 0, 8, "2", false}, {dataOp(5, "567"), 0, 0, 8, "", false}, {dataOp(8, "8"), flow, 0, 8, "", false}, {readOp(9), 0, 0, 13, "34567", false},
	})
	checkRecvSteps(t, 1, []recvStep{
		{dataOp(0, "ab"), flow, 0, 1, "", false}, {dataOp(1, "b"), flow, 0, 1, "", false}, {dataOp(0, "a"), 0, 0, 1, "", false}, {dataOp(1, "b"), flow, 0, 1, "", false}, {readOp(9), 0, 0, 2, "a", false}, {dataOp(0, "xb"), 0, 0, 2, "", false},
		{readOp(9), 0, 0, 3, "b", false}, {finOp(2, "c"), 0, 2, 3, "", false}, {readOp(1), 0, 3, 3, "c", true},
	})
}

func TestRecvResets(t *testing.T) {
	final, cancel := impl.ErrFinal, impl.ErrCancel
	for _, steps := range [][]recvStep{
		{{resetOp(0), 0, 4, 10, "", false}, {readOp(1), cancel, 5, 10, "", false}, {readOp(1), cancel, 5, 10, "", false}},
		{{resetOp(10), 0, 4, 10, "", false}, {readOp(1), cancel, 5, 10, "", false}},
		{{resetOp(11), impl.ErrFlow, 0, 10, "", false}, {dataOp(0, "a"), 0, 0, 10, "", false}, {readOp(1), 0, 0, 10, "a", false}},
		// At the greatest end, and one below it.
		{{dataOp(0, "abcd"), 0, 0, 10, "", false}, {resetOp(3), final, 0, 10, "", false}, {resetOp(4), 0, 4, 10, "", false}, {readOp(9), cancel, 5, 10, "", false}},
		{{dataOp(2, "cd"), 0, 0, 10, "", false}, {resetOp(0), final, 0, 10, "", false}, {resetOp(3), final, 0, 10, "", false}, {resetOp(5), 0, 4, 10, "", false}},
		{{dataOp(0, "abcdefgh"), 0, 0, 10, "", false}, {readOp(5), 0, 0, 15, "abcde", false}, {resetOp(7), final, 0, 15, "", false}, {resetOp(16), impl.ErrFlow, 0, 15, "", false}, {resetOp(15), 0, 4, 15, "", false}, {readOp(5), cancel, 5, 15, "", false}},
		// At a known size, and at others.
		{{finOp(6, ""), 0, 1, 10, "", false}, {resetOp(5), final, 1, 10, "", false}, {resetOp(7), final, 1, 10, "", false}, {resetOp(6), 0, 4, 10, "", false}, {readOp(1), cancel, 5, 10, "", false}},
		// With all bytes there it changes nothing.
		{
			{finOp(0, "abc"), 0, 2, 10, "", false}, {resetOp(3), 0, 2, 10, "", false}, {resetOp(4), final, 2, 10, "", false}, {resetOp(2), final, 2, 10, "", false}, {readOp(2), 0, 2, 10, "ab", false},
			{resetOp(3), 0, 2, 10, "", false}, {readOp(9), 0, 3, 10, "c", true}, {resetOp(3), 0, 3, 10, "", false}, {resetOp(4), final, 3, 10, "", false}, {readOp(1), 0, 3, 10, "", true},
		},
	} {
		checkRecvSteps(t, 10, steps)
	}
}

// recvStates are operations that lead into each state, by its number; with a final size it is 4, the window 10.
func recvStates() [][]impl.RecvOp {
	return [][]impl.RecvOp{
		{dataOp(1, "bcd")},
		{finOp(1, "bcd")},
		{finOp(0, "abcd")},
		{finOp(0, "abcd"), readOp(4)},
		{dataOp(0, "ab"), resetOp(4)},
		{dataOp(0, "ab"), resetOp(4), readOp(1)},
	}
}

func TestRecvInEachState(t *testing.T) {
	for state, ops := range recvStates() {
		got, _ := impl.RecvRun(10, ops)
		if last := got[len(got)-1].State; last != state {
			t.Fatalf("the operations for state %d led into %d", state, last)
		}
		known := state != impl.RsRecv
		final := map[bool]int{true: impl.ErrFinal, false: impl.OK}[known]
		for _, c := range []struct {
			op   impl.RecvOp
			code int
		}{
			{dataOp(0, ""), 0}, {dataOp(4, ""), 0}, {dataOp(3, "d"), 0}, {dataOp(4, "e"), final}, {dataOp(9, "e"), final}, {dataOp(10, "e"), impl.ErrFlow}, {finOp(4, "e"), final}, {finOp(10, "e"), impl.ErrFlow}, {finOp(3, "d"), 0}, {finOp(4, ""), 0},
			{finOp(3, ""), impl.ErrFinal}, {finOp(5, ""), final}, {dataOp(-1, ""), impl.ErrBad}, {resetOp(4), 0}, {resetOp(3), impl.ErrFinal}, {resetOp(5), final}, {resetOp(11), impl.ErrFlow}, {resetOp(-1), impl.ErrBad}, {readOp(0), impl.ErrBad},
			{impl.RecvOp{Kind: 0}, impl.ErrBad}, {impl.RecvOp{Kind: 4, N: 1}, impl.ErrBad},
		} {
			run := append(slices.Clone(ops), c.op)
			checkRecvAsked(t, 10, run)
			got, _ := impl.RecvRun(10, run)
			last := got[len(got)-1]
			if last.Code != c.code || len(last.Data) != 0 || last.End || last.Told != 10 {
				t.Errorf("in state %d, %+v: %s, want code %d", state, c.op, toldRecvObs(last), c.code)
			}
			if (last.Code != impl.OK || state >= impl.RsAll) && last.State != state {
				t.Errorf("in state %d, %+v: the state is %d", state, c.op, last.State)
			}
		}
	}
}

func TestRecvOtherKinds(t *testing.T) {
	for _, kind := range []int{0, -1, 4, 5, 8, 256, 257, math.MinInt, math.MaxInt} {
		wrong := impl.RecvOp{Kind: kind, Off: 0, N: 1, Data: []byte("abcd"), Fin: true}
		checkRecvSteps(t, 10, []recvStep{
			{wrong, impl.ErrBad, 0, 10, "", false}, {dataOp(0, "uvwxy"), 0, 0, 10, "", false}, {wrong, impl.ErrBad, 0, 10, "", false}, {readOp(5), 0, 0, 15, "uvwxy", false}, {wrong, impl.ErrBad, 0, 15, "", false},
			{finOp(5, "z"), 0, 2, 15, "", false}, {wrong, impl.ErrBad, 2, 15, "", false}, {readOp(2), 0, 3, 15, "z", true}, {wrong, impl.ErrBad, 3, 15, "", false},
		})
		checkRecvSteps(t, 10, []recvStep{{resetOp(3), 0, 4, 10, "", false}, {wrong, impl.ErrBad, 4, 10, "", false}, {readOp(3), impl.ErrCancel, 5, 10, "", false}, {wrong, impl.ErrBad, 5, 10, "", false}})
	}
}

func TestRecvLengths(t *testing.T) {
	for _, window := range []int{1, 1499, 1500, 1501, 1502, 16384} {
		for _, count := range []int{0, 1, 1499, 1500, 1501, 1502, 16384, 20000, 70000} {
			for _, off := range []int{0, 1, window - count - 1, window - count, window - count + 1, maxVar - count - 1, maxVar - count, maxVar - count + 1, maxVar, -1, math.MinInt, math.MaxInt} {
				for _, fin := range []bool{false, true} {
					op := impl.RecvOp{Kind: 1, Off: off, Data: rowOf(count, 1, 251), Fin: fin}
					checkRecvAsked(t, window, []impl.RecvOp{op, readOp(count + 1), readOp(1)})
				}
			}
		}
	}
	got, _ := impl.RecvRun(16384, []impl.RecvOp{
		{Kind: 1, Data: zeroes(1500)}, {Kind: 1, Data: zeroes(1501)}, {Kind: 1, Off: -1, Data: zeroes(1501)}, {Kind: 1, Off: maxVar - 1500, Data: zeroes(1500)}, {Kind: 1, Off: maxVar - 1499, Data: zeroes(1500)}, {Kind: 1, Off: maxVar}, {Kind: 1, Off: maxVar + 1},
	})
	for i, code := range []int{impl.OK, impl.ErrBad, impl.ErrBad, impl.ErrFlow, impl.ErrBad, impl.ErrFlow, impl.ErrBad} {
		if got[i].Code != code {
			t.Errorf("operation %d: code %d, want %d", i, got[i].Code, code)
		}
	}
}

// Of two faults the one that the chapter names first is told.
func TestRecvOrderOfCodes(t *testing.T) {
	long := string(zeroes(1501))
	checkRecvSteps(t, 10, []recvStep{
		{dataOp(3, "d"), 0, 0, 10, "", false}, {finOp(2, ""), impl.ErrFinal, 0, 10, "", false}, {finOp(4, ""), 0, 1, 10, "", false},
		{dataOp(9, "ab"), impl.ErrFlow, 1, 10, "", false}, {finOp(11, ""), impl.ErrFlow, 1, 10, "", false}, {finOp(9, long), impl.ErrBad, 1, 10, "", false}, {dataOp(-1, "abcdefghijkl"), impl.ErrBad, 1, 10, "", false}, {dataOp(maxVar, "a"), impl.ErrBad, 1, 10, "", false},
		{resetOp(11), impl.ErrFlow, 1, 10, "", false}, {resetOp(maxVar), impl.ErrFlow, 1, 10, "", false}, {resetOp(maxVar + 1), impl.ErrBad, 1, 10, "", false}, {resetOp(math.MaxInt), impl.ErrBad, 1, 10, "", false}, {resetOp(-1), impl.ErrBad, 1, 10, "", false}, {resetOp(math.MinInt), impl.ErrBad, 1, 10, "", false},
		{resetOp(4), 0, 4, 10, "", false}, {readOp(0), impl.ErrBad, 4, 10, "", false}, {readOp(-1), impl.ErrBad, 4, 10, "", false}, {readOp(1), impl.ErrCancel, 5, 10, "", false}, {readOp(0), impl.ErrBad, 5, 10, "", false},
	})
}

func TestRecvHowMany(t *testing.T) {
	ops := func(n int) []impl.RecvOp {
		list := make([]impl.RecvOp, n)
		for i := range list {
			list[i] = []impl.RecvOp{dataOp(i/2, string(rune('a'+i%26))), readOp(1)}[i%2]
		}
		return list
	}
	for _, n := range []int{0, 1, 399, 400} {
		checkRecvAsked(t, 10, ops(n))
		for _, window := range []int{0, -1, 16385, math.MinInt, math.MaxInt} {
			refusesRecv(t, window, ops(n), impl.ErrBad)
		}
	}
	for _, n := range []int{401, 402, 5000} {
		for _, window := range []int{1, 10, 16384, 0, -1, 16385, math.MinInt, math.MaxInt} {
			refusesRecv(t, window, ops(n), impl.ErrLong)
		}
	}
	checkRecv(t, 1, nil, nil)
	checkRecv(t, 16384, []impl.RecvOp{}, nil)
	checkRecvSteps(t, 16384, []recvStep{{readOp(1), 0, 0, 16384, "", false}, {dataOp(16383, "a"), 0, 0, 16384, "", false}, {dataOp(16384, "a"), impl.ErrFlow, 0, 16384, "", false}, {finOp(16384, ""), 0, 1, 16384, "", false}})
}

// near is a number about one of those that matter, now and then one far from all.
func near(more *numbers, marks ...int) int {
	if more.below(25) == 0 {
		odd := oddInts()
		return odd[more.below(len(odd))]
	}
	return marks[more.below(len(marks))] + more.below(7) - 3
}

// drawnRecvOp has things in the fields that its kind does not ask for, too.
func drawnRecvOp(more *numbers, r *askedReceiver) impl.RecvOp {
	op := impl.RecvOp{Kind: 1 + more.below(3), Off: near(more, 0, r.read, r.greatest, r.told), N: near(more, 1, r.window), Data: more.bytes(more.below(1 + more.below(r.window+3))), Fin: more.below(12) == 0}
	if r.finalKnown && more.below(2) == 0 {
		op.Off, op.Fin = r.final-len(op.Data)+more.below(4)/3, more.below(2) == 0
	}
	switch {
	case more.below(40) == 0:
		op.Kind = near(more, 0, 4)
	case op.Kind == 2 && more.below(4) != 0:
		op.Kind = 1
	case op.Kind == 2:
		op.N = near(more, r.greatest, r.final, r.told)
	case op.Kind == 3 && more.below(2) == 0:
		op.N = 1 + more.below(9)
	}
	return op
}

func TestRecvDrawn(t *testing.T) {
	more := numbers(71)
	for range 6000 {
		window := 1 + more.below(1+more.below(40))
		r := newAskedReceiver(window)
		var ops []impl.RecvOp
		var want []impl.RecvObs
		for range 1 + more.below(60) {
			op := drawnRecvOp(&more, r)
			ops = append(ops, op)
			want = append(want, r.run(op))
		}
		checkRecv(t, window, ops, want)
	}
}

func TestP1RecvTakesAnyIntegers(t *testing.T) {
	for _, v := range oddInts() {
		mustEnd(t, fmt.Sprintf("RecvRun with %d", v), func() {
			for _, ops := range recvStates() {
				for _, w := range []int{v, 0, 1, -1, math.MinInt, math.MaxInt} {
					for kind := range 5 {
						last := readOp(3)
						checkRecvAsked(t, 10, append(slices.Clone(ops), impl.RecvOp{Kind: kind, Off: v, N: w}, last))
						checkRecvAsked(t, 10, append(slices.Clone(ops), impl.RecvOp{Kind: kind, Off: w, N: v, Data: []byte("ab"), Fin: true}, last))
					}
					checkRecvAsked(t, 10, append(slices.Clone(ops), impl.RecvOp{Kind: v, Off: w, N: w, Fin: true}))
				}
			}
			if !inRange(v, 1, 16384) {
				refusesRecv(t, v, []impl.RecvOp{readOp(1)}, impl.ErrBad)
			}
		})
	}
}
