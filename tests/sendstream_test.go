package tests

import (
	"bytes"
	"fmt"
	"math"
	"slices"
	"strings"
	"testing"

	"loop.example/g00012/impl"
)

// askedSender goes by the chapter, word by word: each byte, and Fin, has a letter for new, on its way, acknowledged or lost.
type askedSender struct {
	state, credit int
	written       []byte
	letters       []byte
	fin           byte
	finished      bool
}

func newAskedSender() *askedSender { return &askedSender{fin: 'n'} }

func (s *askedSender) open() bool { return s.state <= impl.SsSent }

func (s *askedSender) sent() int { return len(s.letters) - bytes.Count(s.letters, []byte{'n'}) }

func (s *askedSender) write(op impl.SendOp) int {
	switch {
	case s.state != impl.SsReady && s.state != impl.SsSend || s.finished:
		return impl.ErrState
	case len(s.written)+len(op.Data) > 65536:
		return impl.ErrLong
	}
	s.written = append(s.written, op.Data...)
	s.letters = append(s.letters, bytes.Repeat([]byte{'n'}, len(op.Data))...)
	return impl.OK
}

func (s *askedSender) finish() int {
	if s.state != impl.SsReady && s.state != impl.SsSend || s.finished {
		return impl.ErrState
	}
	s.finished = true
	return impl.OK
}

// run is how many letters from a place on are of one kind, at most n.
func (s *askedSender) run(from, n int, letter byte) int {
	count := 0
	for count < n && from+count < len(s.letters) && s.letters[from+count] == letter {
		count++
	}
	return count
}

func (s *askedSender) pull(op impl.SendOp) impl.SendObs {
	if !inRange(op.N, 1, 1500) {
		return impl.SendObs{Code: impl.ErrBad}
	}
	if !s.open() {
		return impl.SendObs{}
	}
	lost, fresh := bytes.IndexByte(s.letters, 'l'), bytes.IndexByte(s.letters, 'n')
	from, count := 0, 0
	switch {
	case lost >= 0:
		from, count = lost, s.run(lost, op.N, 'l')
	case fresh >= 0 && fresh < s.credit:
		from, count = fresh, min(s.run(fresh, op.N, 'n'), s.credit-fresh)
	case s.finished && fresh < 0 && (s.fin == 'n' || s.fin == 'l'):
		from = len(s.written)
	default:
		return impl.SendObs{Blocked: fresh >= 0}
	}
	obs := impl.SendObs{Some: true, Off: from, Data: slices.Clone(s.written[from : from+count])}
	for i := range count {
		s.letters[from+i] = 'o'
	}
	if s.finished && from+count == len(s.written) && s.fin != 'a' {
		obs.Fin, s.fin, s.state = true, 'o', impl.SsSent
	} else if s.state == impl.SsReady {
		s.state = impl.SsSend
	}
	return obs
}

func (s *askedSender) told(op impl.SendOp, letter byte) int {
	if op.Off < 0 || op.N < 0 || op.Off > s.sent() || op.N > s.sent() || op.Off+op.N > s.sent() {
		return impl.ErrBad
	}
	if op.Fin && (s.fin == 'n' || op.Off+op.N != len(s.written)) {
		return impl.ErrBad
	}
	if !s.open() {
		return impl.OK
	}
	for i := range op.N {
		if s.letters[op.Off+i] != 'a' {
			s.letters[op.Off+i] = letter
		}
	}
	if op.Fin && s.fin != 'a' {
		s.fin = letter
	}
	if s.fin == 'a' && bytes.Count(s.letters, []byte{'a'}) == len(s.letters) {
		s.state = impl.SsDone
	}
	return impl.OK
}

func (s *askedSender) reset() impl.SendObs {
	if !s.open() {
		return impl.SendObs{Code: impl.ErrState}
	}
	s.state = impl.SsReset
	return impl.SendObs{Off: s.sent()}
}

func (s *askedSender) answer(op impl.SendOp) impl.SendObs {
	switch op.Kind {
	case 1:
		return impl.SendObs{Code: s.write(op)}
	case 2:
		return impl.SendObs{Code: s.finish()}
	case 3:
		if op.N < 0 {
			return impl.SendObs{Code: impl.ErrBad}
		}
		s.credit = max(s.credit, op.N)
		return impl.SendObs{}
	case 4:
		return s.pull(op)
	case 5:
		return impl.SendObs{Code: s.told(op, 'a')}
	case 6:
		return impl.SendObs{Code: s.told(op, 'l')}
	case 7:
		return s.reset()
	case 8:
		if s.state != impl.SsReset {
			return impl.SendObs{Code: impl.ErrState}
		}
		s.state = impl.SsCut
		return impl.SendObs{}
	}
	return impl.SendObs{Code: impl.ErrBad}
}

func (s *askedSender) do(op impl.SendOp) impl.SendObs {
	obs := s.answer(op)
	obs.State = s.state
	return obs
}

func sameSendObs(a, b impl.SendObs) bool {
	return a.Code == b.Code && a.State == b.State && a.Off == b.Off && bytes.Equal(a.Data, b.Data) && a.Some == b.Some && a.Fin == b.Fin && a.Blocked == b.Blocked
}

func toldSendObs(o impl.SendObs) string {
	return fmt.Sprintf("{Code %d State %d Off %d Data %s Some %v Fin %v Blocked %v}", o.Code, o.State, o.Off, shortBytes(o.Data), o.Some, o.Fin, o.Blocked)
}

// toldOps are the last of the operations, of which the last one was answered wrongly.
func toldOps(ops []impl.SendOp) string {
	var lines []string
	for _, op := range ops {
		lines = append(lines, fmt.Sprintf("{Kind %d Off %d N %d Data %s Fin %v}", op.Kind, op.Off, op.N, shortBytes(op.Data), op.Fin))
	}
	return strings.Join(lines[max(0, len(lines)-20):], "\n  ")
}

func checkSend(t *testing.T, ops []impl.SendOp, want []impl.SendObs) {
	t.Helper()
	got, code := impl.SendRun(ops)
	if code != impl.OK || len(got) != len(want) {
		t.Errorf("SendRun(%d operations) = %d answers, code %d", len(ops), len(got), code)
		return
	}
	for i := range want {
		if !sameSendObs(got[i], want[i]) {
			t.Errorf("SendRun, answer %d = %s, want %s, of\n  %s", i, toldSendObs(got[i]), toldSendObs(want[i]), toldOps(ops[:i+1]))
			return
		}
	}
}

func checkSendAsked(t *testing.T, ops []impl.SendOp) {
	t.Helper()
	s := newAskedSender()
	var want []impl.SendObs
	for _, op := range ops {
		want = append(want, s.do(op))
	}
	checkSend(t, ops, want)
}

func writeOp(text string) impl.SendOp { return impl.SendOp{Kind: 1, Data: []byte(text)} }

func finishOp() impl.SendOp { return impl.SendOp{Kind: 2} }

func creditOp(n int) impl.SendOp { return impl.SendOp{Kind: 3, N: n} }

func pullOp(n int) impl.SendOp { return impl.SendOp{Kind: 4, N: n} }

func ackedOp(off, n int) impl.SendOp { return impl.SendOp{Kind: 5, Off: off, N: n} }

func lostOp(off, n int) impl.SendOp { return impl.SendOp{Kind: 6, Off: off, N: n} }

func ackedFinOp(off, n int) impl.SendOp { return impl.SendOp{Kind: 5, Off: off, N: n, Fin: true} }

func lostFinOp(off, n int) impl.SendOp { return impl.SendOp{Kind: 6, Off: off, N: n, Fin: true} }

func giveUpOp() impl.SendOp { return impl.SendOp{Kind: 7} }

func gaveUpOp() impl.SendOp { return impl.SendOp{Kind: 8} }

// sendStep is an operation and what is to be answered to it.
type sendStep struct {
	op   impl.SendOp
	want impl.SendObs
}

// plainObs is an answer of a code and a state alone.
func plainObs(code, state int) impl.SendObs { return impl.SendObs{Code: code, State: state} }

func pieceObs(state, off int, text string) impl.SendObs {
	return impl.SendObs{State: state, Off: off, Data: []byte(text), Some: true}
}

// lastObs is a piece with Fin.
func lastObs(state, off int, text string) impl.SendObs {
	return impl.SendObs{State: state, Off: off, Data: []byte(text), Some: true, Fin: true}
}

func blockedObs(state int) impl.SendObs { return impl.SendObs{State: state, Blocked: true} }

// checkSendSteps runs each beginning of the steps too: no answer hangs on what comes behind it.
func checkSendSteps(t *testing.T, ahead []impl.SendOp, steps []sendStep) {
	t.Helper()
	ops := slices.Clone(ahead)
	for _, s := range steps {
		ops = append(ops, s.op)
		got, code := impl.SendRun(ops)
		if code != impl.OK || len(got) != len(ops) {
			t.Fatalf("SendRun(%d operations) = %d answers, code %d", len(ops), len(got), code)
		}
		if last := got[len(got)-1]; !sameSendObs(last, s.want) {
			t.Errorf("SendRun: the last answer is %s, want %s, of\n  %s", toldSendObs(last), toldSendObs(s.want), toldOps(ops))
			return
		}
	}
	checkSendAsked(t, ops)
}

func TestP8NothingBeyondTheCredit(t *testing.T) {
	checkSendSteps(t, nil, []sendStep{
		{pullOp(9), plainObs(0, 0)}, {writeOp("abcdef"), plainObs(0, 0)}, {pullOp(9), blockedObs(0)}, {creditOp(0), plainObs(0, 0)}, {pullOp(9), blockedObs(0)},
		{creditOp(2), plainObs(0, 0)}, {pullOp(9), pieceObs(1, 0, "ab")}, {pullOp(9), blockedObs(1)}, {creditOp(1), plainObs(0, 1)}, {creditOp(3), plainObs(0, 1)}, {creditOp(2), plainObs(0, 1)},
		{pullOp(1), pieceObs(1, 2, "c")}, {pullOp(1), blockedObs(1)}, {creditOp(-1), plainObs(impl.ErrBad, 1)}, {pullOp(1), blockedObs(1)}, {creditOp(5), plainObs(0, 1)}, {pullOp(2), pieceObs(1, 3, "de")}, {pullOp(2), blockedObs(1)},
		{creditOp(6), plainObs(0, 1)}, {pullOp(2), pieceObs(1, 5, "f")}, {pullOp(2), plainObs(0, 1)}, {creditOp(math.MaxInt), plainObs(0, 1)}, {pullOp(2), plainObs(0, 1)}, {writeOp("gh"), plainObs(0, 1)}, {pullOp(2), pieceObs(1, 6, "gh")},
	})
	// What is lost is handed out again ahead of what is new, also with no credit for more.
	checkSendSteps(t, nil, []sendStep{
		{writeOp("abcdef"), plainObs(0, 0)}, {creditOp(4), plainObs(0, 0)}, {pullOp(9), pieceObs(1, 0, "abcd")}, {lostOp(1, 3), plainObs(0, 1)}, {pullOp(2), pieceObs(1, 1, "bc")}, {creditOp(6), plainObs(0, 1)},
		{pullOp(9), pieceObs(1, 3, "d")}, {pullOp(9), pieceObs(1, 4, "ef")}, {lostOp(0, 6), plainObs(0, 1)}, {creditOp(0), plainObs(0, 1)}, {pullOp(9), pieceObs(1, 0, "abcdef")},
	})
}

func TestSendPulls(t *testing.T) {
	text := string(rowOf(3100, 7, 251))
	checkSendSteps(t, []impl.SendOp{writeOp(text), creditOp(3050)}, []sendStep{
		{pullOp(0), plainObs(impl.ErrBad, 0)}, {pullOp(1501), plainObs(impl.ErrBad, 0)}, {pullOp(-1), plainObs(impl.ErrBad, 0)}, {pullOp(math.MinInt), plainObs(impl.ErrBad, 0)}, {pullOp(math.MaxInt), plainObs(impl.ErrBad, 0)},
		{pullOp(1), pieceObs(1, 0, text[:1])}, {pullOp(1500), pieceObs(1, 1, text[1:1501])}, {pullOp(1499), pieceObs(1, 1501, text[1501:3000])}, {pullOp(1500), pieceObs(1, 3000, text[3000:3050])}, {pullOp(1500), blockedObs(1)},
		{lostOp(10, 3040), plainObs(0, 1)}, {pullOp(0), plainObs(impl.ErrBad, 1)}, {pullOp(1501), plainObs(impl.ErrBad, 1)}, {pullOp(1500), pieceObs(1, 10, text[10:1510])}, {pullOp(1), pieceObs(1, 1510, text[1510:1511])}, {pullOp(1500), pieceObs(1, 1511, text[1511:3011])}, {pullOp(1500), pieceObs(1, 3011, text[3011:3050])},
	})
}

// tenOut are ten bytes on their way, and a credit for more.
func tenOut() []impl.SendOp { return []impl.SendOp{writeOp("abcdefghij"), creditOp(20), pullOp(10)} }

// tenAndFin are ten bytes and Fin on their way.
func tenAndFin() []impl.SendOp { return slices.Insert(tenOut(), 2, finishOp()) }

func TestP8WhatIsLostIsHandedOutAgain(t *testing.T) {
	for _, steps := range [][]sendStep{
		// In several places, told in any order.
		{{lostOp(7, 3), plainObs(0, 1)}, {lostOp(1, 2), plainObs(0, 1)}, {lostOp(5, 1), plainObs(0, 1)}, {pullOp(9), pieceObs(1, 1, "bc")}, {pullOp(9), pieceObs(1, 5, "f")}, {pullOp(9), pieceObs(1, 7, "hij")}, {pullOp(9), plainObs(0, 1)}},
		// One lost piece in smaller ones.
		{{lostOp(2, 5), plainObs(0, 1)}, {pullOp(2), pieceObs(1, 2, "cd")}, {pullOp(1), pieceObs(1, 4, "e")}, {pullOp(4), pieceObs(1, 5, "fg")}, {pullOp(4), plainObs(0, 1)}},
		// Neighbours are one piece, and the same loss told twice is one.
		{{lostOp(2, 2), plainObs(0, 1)}, {lostOp(4, 1), plainObs(0, 1)}, {lostOp(3, 2), plainObs(0, 1)}, {pullOp(9), pieceObs(1, 2, "cde")}, {pullOp(9), plainObs(0, 1)}},
		// Lost again when it was handed out again.
		{{lostOp(2, 2), plainObs(0, 1)}, {pullOp(9), pieceObs(1, 2, "cd")}, {lostOp(2, 2), plainObs(0, 1)}, {pullOp(9), pieceObs(1, 2, "cd")}, {lostOp(3, 1), plainObs(0, 1)}, {pullOp(9), pieceObs(1, 3, "d")}},
		// Acknowledged in part.
		{{lostOp(1, 5), plainObs(0, 1)}, {ackedOp(3, 1), plainObs(0, 1)}, {pullOp(9), pieceObs(1, 1, "bc")}, {pullOp(9), pieceObs(1, 4, "ef")}, {pullOp(9), plainObs(0, 1)}},
		// Lost behind the acknowledgement, and the other way round.
		{{ackedOp(0, 4), plainObs(0, 1)}, {lostOp(0, 6), plainObs(0, 1)}, {pullOp(9), pieceObs(1, 4, "ef")}, {pullOp(9), plainObs(0, 1)}},
		{{ackedOp(0, 10), plainObs(0, 1)}, {lostOp(0, 10), plainObs(0, 1)}, {pullOp(9), plainObs(0, 1)}},
		{{lostOp(0, 3), plainObs(0, 1)}, {ackedOp(0, 3), plainObs(0, 1)}, {pullOp(9), plainObs(0, 1)}, {lostOp(0, 3), plainObs(0, 1)}, {pullOp(9), plainObs(0, 1)}},
		{{lostOp(0, 6), plainObs(0, 1)}, {pullOp(3), pieceObs(1, 0, "abc")}, {ackedOp(1, 4), plainObs(0, 1)}, {pullOp(3), pieceObs(1, 5, "f")}, {lostOp(0, 6), plainObs(0, 1)}, {pullOp(3), pieceObs(1, 0, "a")}, {pullOp(3), pieceObs(1, 5, "f")}},
		// Lost ahead of what is new.
		{{writeOp("kl"), plainObs(0, 1)}, {lostOp(9, 1), plainObs(0, 1)}, {pullOp(9), pieceObs(1, 9, "j")}, {pullOp(9), pieceObs(1, 10, "kl")}, {pullOp(9), plainObs(0, 1)}},
		// Of nothing.
		{{lostOp(0, 0), plainObs(0, 1)}, {lostOp(10, 0), plainObs(0, 1)}, {ackedOp(5, 0), plainObs(0, 1)}, {pullOp(9), plainObs(0, 1)}},
	} {
		checkSendSteps(t, tenOut(), steps)
	}
}

func TestP8FinOnItsOwn(t *testing.T) {
	for _, steps := range [][]sendStep{
		{{finishOp(), plainObs(0, 0)}, {pullOp(1), lastObs(2, 0, "")}, {pullOp(1), plainObs(0, 2)}, {lostFinOp(0, 0), plainObs(0, 2)}, {pullOp(1), lastObs(2, 0, "")}, {ackedOp(0, 0), plainObs(0, 2)}, {ackedFinOp(0, 0), plainObs(0, 3)}, {pullOp(1), plainObs(0, 3)}},
		{{finishOp(), plainObs(0, 0)}, {pullOp(1), lastObs(2, 0, "")}, {lostFinOp(0, 0), plainObs(0, 2)}, {ackedFinOp(0, 0), plainObs(0, 3)}, {lostFinOp(0, 0), plainObs(0, 3)}, {pullOp(1), plainObs(0, 3)}},
		// It waits for the bytes that the credit keeps back.
		{
			{writeOp("abc"), plainObs(0, 0)}, {finishOp(), plainObs(0, 0)}, {pullOp(9), blockedObs(0)}, {creditOp(2), plainObs(0, 0)}, {pullOp(9), pieceObs(1, 0, "ab")}, {pullOp(9), blockedObs(1)}, {lostOp(0, 2), plainObs(0, 1)}, {pullOp(9), pieceObs(1, 0, "ab")},
			{ackedOp(0, 2), plainObs(0, 1)}, {pullOp(9), blockedObs(1)}, {creditOp(3), plainObs(0, 1)}, {pullOp(9), lastObs(2, 2, "c")}, {pullOp(9), plainObs(0, 2)}, {ackedFinOp(2, 1), plainObs(0, 3)},
		},
		// Behind bytes that are on their way, or acknowledged, already.
		{{writeOp("abc"), plainObs(0, 0)}, {creditOp(3), plainObs(0, 0)}, {pullOp(9), pieceObs(1, 0, "abc")}, {finishOp(), plainObs(0, 1)}, {pullOp(9), lastObs(2, 3, "")}, {pullOp(9), plainObs(0, 2)}, {ackedFinOp(3, 0), plainObs(0, 2)}, {ackedOp(0, 3), plainObs(0, 3)}},
		{{writeOp("abc"), plainObs(0, 0)}, {creditOp(3), plainObs(0, 0)}, {pullOp(9), pieceObs(1, 0, "abc")}, {ackedOp(0, 3), plainObs(0, 1)}, {finishOp(), plainObs(0, 1)}, {pullOp(9), lastObs(2, 3, "")}, {lostFinOp(3, 0), plainObs(0, 2)}, {pullOp(9), lastObs(2, 3, "")}, {ackedFinOp(3, 0), plainObs(0, 3)}},
		// With bytes that were lost when the finish came.
		{{writeOp("abc"), plainObs(0, 0)}, {creditOp(3), plainObs(0, 0)}, {pullOp(9), pieceObs(1, 0, "abc")}, {lostOp(1, 2), plainObs(0, 1)}, {finishOp(), plainObs(0, 1)}, {pullOp(1), pieceObs(1, 1, "b")}, {pullOp(1), lastObs(2, 2, "c")}, {pullOp(1), plainObs(0, 2)}},
		{{writeOp("abc"), plainObs(0, 0)}, {creditOp(3), plainObs(0, 0)}, {pullOp(9), pieceObs(1, 0, "abc")}, {lostOp(0, 2), plainObs(0, 1)}, {finishOp(), plainObs(0, 1)}, {pullOp(9), pieceObs(1, 0, "ab")}, {pullOp(1), lastObs(2, 3, "")}},
		// At once with all bytes, out of SsReady.
		{{writeOp(""), plainObs(0, 0)}, {writeOp("ab"), plainObs(0, 0)}, {writeOp("c"), plainObs(0, 0)}, {finishOp(), plainObs(0, 0)}, {creditOp(9), plainObs(0, 0)}, {pullOp(3), lastObs(2, 0, "abc")}, {ackedFinOp(0, 3), plainObs(0, 3)}},
	} {
		checkSendSteps(t, nil, steps)
	}
}

func TestP8FinLostWithBytes(t *testing.T) {
	for _, steps := range [][]sendStep{
		{{lostFinOp(7, 3), plainObs(0, 2)}, {pullOp(2), pieceObs(2, 7, "hi")}, {pullOp(2), lastObs(2, 9, "j")}, {pullOp(2), plainObs(0, 2)}},
		{{lostFinOp(7, 3), plainObs(0, 2)}, {pullOp(3), lastObs(2, 7, "hij")}, {pullOp(2), plainObs(0, 2)}},
		{{lostFinOp(0, 10), plainObs(0, 2)}, {ackedOp(4, 6), plainObs(0, 2)}, {pullOp(9), pieceObs(2, 0, "abcd")}, {pullOp(9), lastObs(2, 10, "")}, {pullOp(9), plainObs(0, 2)}},
		{{lostFinOp(10, 0), plainObs(0, 2)}, {pullOp(2), lastObs(2, 10, "")}, {pullOp(2), plainObs(0, 2)}},
		{{lostFinOp(10, 0), plainObs(0, 2)}, {lostOp(3, 1), plainObs(0, 2)}, {pullOp(2), pieceObs(2, 3, "d")}, {pullOp(2), lastObs(2, 10, "")}, {pullOp(2), plainObs(0, 2)}},
		// The last byte lost without Fin takes it along, as it isn't acknowledged.
		{{lostOp(8, 2), plainObs(0, 2)}, {pullOp(9), lastObs(2, 8, "ij")}, {pullOp(9), plainObs(0, 2)}, {lostOp(8, 1), plainObs(0, 2)}, {pullOp(9), pieceObs(2, 8, "i")}},
		// Acknowledged it doesn't go again, and is not lost behind that.
		{
			{ackedFinOp(10, 0), plainObs(0, 2)}, {lostOp(8, 2), plainObs(0, 2)}, {pullOp(9), pieceObs(2, 8, "ij")}, {lostFinOp(10, 0), plainObs(0, 2)}, {pullOp(9), plainObs(0, 2)}, {lostFinOp(9, 1), plainObs(0, 2)}, {pullOp(9), pieceObs(2, 9, "j")},
			{ackedOp(0, 9), plainObs(0, 2)}, {ackedOp(9, 1), plainObs(0, 3)},
		},
		{{lostFinOp(0, 10), plainObs(0, 2)}, {ackedFinOp(0, 10), plainObs(0, 3)}, {pullOp(9), plainObs(0, 3)}},
		{{ackedOp(0, 10), plainObs(0, 2)}, {lostFinOp(0, 10), plainObs(0, 2)}, {pullOp(9), lastObs(2, 10, "")}, {ackedFinOp(0, 10), plainObs(0, 3)}},
		{{ackedFinOp(1, 9), plainObs(0, 2)}, {ackedOp(0, 1), plainObs(0, 3)}},
		{{ackedFinOp(0, 9), plainObs(impl.ErrBad, 2)}, {ackedOp(0, 10), plainObs(0, 2)}, {ackedFinOp(10, 0), plainObs(0, 3)}},
	} {
		checkSendSteps(t, tenAndFin(), steps)
	}
}

func TestSendToldBounds(t *testing.T) {
	bad := impl.ErrBad
	ahead := []impl.SendOp{writeOp("abcdefgh"), creditOp(5), pullOp(3), pullOp(3)}
	for kind := 5; kind <= 6; kind++ {
		for _, c := range []struct{ off, n, code int }{
			{0, 0, 0}, {0, 5, 0}, {5, 0, 0}, {1, 4, 0}, {4, 1, 0}, {0, 6, bad}, {6, 0, bad}, {5, 1, bad}, {1, 5, bad}, {2, 4, bad}, {0, 8, bad}, {8, 0, bad}, {-1, 1, bad}, {-1, 6, bad}, {0, -1, bad}, {1, -1, bad}, {5, -5, bad}, {-1, 0, bad},
			{math.MaxInt, 1, bad}, {1, math.MaxInt, bad}, {math.MaxInt, math.MaxInt, bad}, {math.MinInt, 0, bad}, {0, math.MinInt, bad}, {math.MinInt, math.MinInt, bad}, {math.MinInt, math.MaxInt, bad}, {math.MaxInt, math.MinInt, bad}, {math.MaxInt, 0, bad}, {0, math.MaxInt, bad},
		} {
			checkSendSteps(t, ahead, []sendStep{{impl.SendOp{Kind: kind, Off: c.off, N: c.n}, plainObs(c.code, 1)}})
			// Fin has not been on its way.
			checkSendSteps(t, ahead, []sendStep{{impl.SendOp{Kind: kind, Off: c.off, N: c.n, Fin: true}, plainObs(bad, 1)}})
		}
		// A refused one changes nothing.
		checkSendSteps(t, ahead, []sendStep{{impl.SendOp{Kind: kind, Off: 0, N: 6}, plainObs(bad, 1)}, {pullOp(9), blockedObs(1)}, {lostOp(0, 5), plainObs(0, 1)}, {pullOp(9), pieceObs(1, 0, "abcde")}})
		// Nothing was on its way yet.
		checkSendSteps(t, []impl.SendOp{writeOp("abc"), creditOp(9)}, []sendStep{{impl.SendOp{Kind: kind}, plainObs(0, 0)}, {impl.SendOp{Kind: kind, N: 1}, plainObs(bad, 0)}, {impl.SendOp{Kind: kind, Off: 1}, plainObs(bad, 0)}, {impl.SendOp{Kind: kind, Fin: true}, plainObs(bad, 0)}})
	}
}

func TestSendFinToldWrongly(t *testing.T) {
	bad := impl.ErrBad
	for kind := 5; kind <= 6; kind++ {
		told := func(off, n int) impl.SendOp { return impl.SendOp{Kind: kind, Off: off, N: n, Fin: true} }
		// Not finished; finished but not pulled; pulled but for the last byte.
		checkSendSteps(t, nil, []sendStep{
			{told(0, 0), plainObs(bad, 0)}, {writeOp("abc"), plainObs(0, 0)}, {creditOp(9), plainObs(0, 0)}, {pullOp(2), pieceObs(1, 0, "ab")}, {told(0, 2), plainObs(bad, 1)}, {finishOp(), plainObs(0, 1)}, {told(0, 2), plainObs(bad, 1)}, {told(2, 0), plainObs(bad, 1)},
			{pullOp(9), lastObs(2, 2, "c")}, {told(0, 2), plainObs(bad, 2)}, {told(2, 0), plainObs(bad, 2)}, {told(0, 0), plainObs(bad, 2)}, {told(0, 4), plainObs(bad, 2)}, {told(4, 0), plainObs(bad, 2)}, {told(-1, 4), plainObs(bad, 2)}, {told(4, -1), plainObs(bad, 2)}, {pullOp(9), plainObs(0, 2)}, {ackedOp(0, 3), plainObs(0, 2)},
		})
		checkSendSteps(t, nil, []sendStep{{finishOp(), plainObs(0, 0)}, {told(0, 0), plainObs(bad, 0)}, {pullOp(1), lastObs(2, 0, "")}, {told(0, 1), plainObs(bad, 2)}, {told(1, 0), plainObs(bad, 2)}})
		checkSendSteps(t, nil, []sendStep{{writeOp("abc"), plainObs(0, 0)}, {creditOp(9), plainObs(0, 0)}, {pullOp(9), pieceObs(1, 0, "abc")}, {told(0, 3), plainObs(bad, 1)}, {finishOp(), plainObs(0, 1)}, {told(0, 3), plainObs(bad, 1)}, {pullOp(9), lastObs(2, 3, "")}})
	}
}

func TestSendWrites(t *testing.T) {
	most := string(rowOf(65536, 3, 241))
	checkSendSteps(t, nil, []sendStep{
		{writeOp(most + "x"), plainObs(impl.ErrLong, 0)}, {writeOp(most), plainObs(0, 0)}, {writeOp("x"), plainObs(impl.ErrLong, 0)}, {writeOp(""), plainObs(0, 0)}, {writeOp(most), plainObs(impl.ErrLong, 0)}, {creditOp(math.MaxInt), plainObs(0, 0)},
		{pullOp(1500), pieceObs(1, 0, most[:1500])}, {writeOp("x"), plainObs(impl.ErrLong, 1)}, {ackedOp(0, 1500), plainObs(0, 1)}, {writeOp("x"), plainObs(impl.ErrLong, 1)}, {finishOp(), plainObs(0, 1)}, {writeOp("x"), plainObs(impl.ErrState, 1)}, {writeOp(""), plainObs(impl.ErrState, 1)},
	})
	checkSendSteps(t, []impl.SendOp{writeOp(most[:60000])}, []sendStep{
		{writeOp(most[:5537]), plainObs(impl.ErrLong, 0)}, {writeOp(most[60000:]), plainObs(0, 0)}, {writeOp("x"), plainObs(impl.ErrLong, 0)}, {finishOp(), plainObs(0, 0)}, {writeOp(most), plainObs(impl.ErrState, 0)}, {finishOp(), plainObs(impl.ErrState, 0)},
	})
	ops := []impl.SendOp{writeOp(most), finishOp(), creditOp(65536)}
	var want []byte
	for range 44 {
		ops = append(ops, pullOp(1500))
	}
	got, _ := impl.SendRun(append(ops, pullOp(1500), lostFinOp(0, 65536), pullOp(1500), ackedFinOp(0, 65536)))
	for _, obs := range got[3:47] {
		want = append(want, obs.Data...)
	}
	if string(want) != most || !got[46].Fin || got[47].Some || !bytes.Equal(got[49].Data, []byte(most[:1500])) || got[50].State != impl.SsDone {
		t.Errorf("%d bytes came out of %d; then %s %s %s", len(want), len(most), toldSendObs(got[47]), toldSendObs(got[49]), toldSendObs(got[50]))
	}
}

// sendStates are operations that lead into each state, by its number; 5 bytes are written, and 3 of them pulled where it ends without Fin.
func sendStates() [][]impl.SendOp {
	sent := []impl.SendOp{writeOp("abcde"), finishOp(), creditOp(5), pullOp(5)}
	return [][]impl.SendOp{
		{writeOp("abcde"), creditOp(3)},
		{writeOp("abcde"), creditOp(3), pullOp(5)},
		sent,
		append(slices.Clone(sent), ackedFinOp(0, 5)),
		{writeOp("abcde"), creditOp(3), pullOp(5), giveUpOp()},
		{writeOp("abcde"), creditOp(3), pullOp(5), giveUpOp(), gaveUpOp()},
	}
}

func TestSendInEachState(t *testing.T) {
	bad, wrong := impl.ErrBad, impl.ErrState
	for state, ops := range sendStates() {
		after := func(op impl.SendOp, want impl.SendObs) {
			t.Helper()
			checkSendSteps(t, ops, []sendStep{{op, want}})
		}
		got, _ := impl.SendRun(ops)
		if last := got[len(got)-1].State; last != state {
			t.Fatalf("the operations for state %d led into %d", state, last)
		}
		open := map[bool]int{true: 0, false: wrong}
		after(writeOp("f"), plainObs(open[state <= 1], state))
		after(writeOp(string(zeroes(65536))), plainObs(map[bool]int{true: impl.ErrLong, false: wrong}[state <= 1], state))
		after(finishOp(), plainObs(open[state <= 1], state))
		after(creditOp(9), plainObs(0, state))
		after(creditOp(-1), plainObs(bad, state))
		after(pullOp(0), plainObs(bad, state))
		after(pullOp(1501), plainObs(bad, state))
		after(pullOp(9), []impl.SendObs{pieceObs(1, 0, "abc"), blockedObs(1), plainObs(0, 2), plainObs(0, 3), plainObs(0, 4), plainObs(0, 5)}[state])
		begun := []int{0, 3, 5, 5, 3, 3}[state]
		after(lostOp(0, begun), plainObs(0, state))
		after(lostOp(0, begun+1), plainObs(bad, state))
		after(ackedOp(0, begun), plainObs(0, state))
		after(ackedOp(1, begun), plainObs(bad, state))
		after(giveUpOp(), impl.SendObs{Code: open[state <= 2], State: []int{4, 4, 4, 3, 4, 5}[state], Off: []int{0, 3, 5, 0, 0, 0}[state]})
		after(gaveUpOp(), plainObs(open[state == 4], []int{0, 1, 2, 3, 5, 5}[state]))
		after(impl.SendOp{Kind: 0}, plainObs(bad, state))
		after(impl.SendOp{Kind: 9}, plainObs(bad, state))
	}
}

// Behind a reset, and behind all being acknowledged, what is told changes nothing.
func TestSendNothingMoreIsDone(t *testing.T) {
	for state, ops := range sendStates()[3:] {
		state += 3
		checkSendSteps(t, ops, []sendStep{
			{creditOp(9), plainObs(0, state)}, {lostOp(0, 3), plainObs(0, state)}, {pullOp(9), plainObs(0, state)}, {ackedOp(0, 3), plainObs(0, state)}, {pullOp(9), plainObs(0, state)}, {lostOp(3, 0), plainObs(0, state)}, {pullOp(9), plainObs(0, state)},
		})
	}
	reset := append(tenAndFin(), lostFinOp(4, 6), giveUpOp())
	checkSendSteps(t, reset, []sendStep{{ackedFinOp(0, 10), plainObs(0, 4)}, {pullOp(9), plainObs(0, 4)}, {gaveUpOp(), plainObs(0, 5)}, {ackedFinOp(0, 10), plainObs(0, 5)}, {lostFinOp(10, 0), plainObs(0, 5)}, {ackedFinOp(0, 9), plainObs(impl.ErrBad, 5)}, {pullOp(9), plainObs(0, 5)}})
	done := append(tenAndFin(), ackedFinOp(0, 10))
	checkSendSteps(t, done, []sendStep{{lostFinOp(0, 10), plainObs(0, 3)}, {pullOp(9), plainObs(0, 3)}, {ackedFinOp(0, 10), plainObs(0, 3)}, {lostFinOp(0, 9), plainObs(impl.ErrBad, 3)}, {giveUpOp(), plainObs(impl.ErrState, 3)}, {gaveUpOp(), plainObs(impl.ErrState, 3)}})
}

// The final size is how many bytes have been on their way, whatever became of them.
func TestSendResets(t *testing.T) {
	for _, c := range []struct {
		ops []impl.SendOp
		off int
	}{
		{nil, 0}, {[]impl.SendOp{finishOp()}, 0}, {[]impl.SendOp{finishOp(), pullOp(1)}, 0}, {[]impl.SendOp{writeOp("abc"), creditOp(2)}, 0}, {[]impl.SendOp{writeOp("abc"), creditOp(2), pullOp(1)}, 1}, {[]impl.SendOp{writeOp("abc"), creditOp(2), pullOp(9)}, 2},
		{[]impl.SendOp{writeOp("abc"), creditOp(3), pullOp(9), lostOp(0, 3)}, 3}, {[]impl.SendOp{writeOp("abc"), creditOp(3), pullOp(9), lostOp(0, 3), pullOp(1), ackedOp(0, 1)}, 3}, {append(tenAndFin(), ackedOp(2, 8)), 10}, {append(tenAndFin(), ackedFinOp(2, 8)), 10}, {append(tenOut(), writeOp("klm")), 10},
	} {
		checkSendSteps(t, c.ops, []sendStep{{giveUpOp(), impl.SendObs{State: 4, Off: c.off}}, {giveUpOp(), plainObs(impl.ErrState, 4)}, {gaveUpOp(), plainObs(0, 5)}, {gaveUpOp(), plainObs(impl.ErrState, 5)}, {giveUpOp(), plainObs(impl.ErrState, 5)}})
	}
}

func TestSendOtherKinds(t *testing.T) {
	for _, kind := range []int{0, -1, 9, 10, 256, 257, 260, math.MinInt, math.MaxInt} {
		op := impl.SendOp{Kind: kind, Off: 0, N: 1, Data: []byte("xyz"), Fin: true}
		checkSendSteps(t, nil, []sendStep{
			{op, plainObs(impl.ErrBad, 0)}, {writeOp("ab"), plainObs(0, 0)}, {op, plainObs(impl.ErrBad, 0)}, {creditOp(9), plainObs(0, 0)}, {pullOp(9), pieceObs(1, 0, "ab")}, {op, plainObs(impl.ErrBad, 1)}, {finishOp(), plainObs(0, 1)}, {pullOp(9), lastObs(2, 2, "")}, {op, plainObs(impl.ErrBad, 2)},
		})
	}
}

func TestSendHowMany(t *testing.T) {
	ops := func(n int) []impl.SendOp {
		list := make([]impl.SendOp, n)
		for i := range list {
			list[i] = []impl.SendOp{writeOp("abc"), creditOp(i), pullOp(2)}[i%3]
		}
		return list
	}
	for _, n := range []int{0, 1, 399, 400} {
		checkSendAsked(t, ops(n))
	}
	for _, n := range []int{401, 402, 5000} {
		if got, code := impl.SendRun(ops(n)); code != impl.ErrLong || len(got) != 0 {
			t.Errorf("SendRun(%d operations) = %d answers, code %d", n, len(got), code)
		}
	}
	checkSend(t, nil, nil)
	checkSend(t, []impl.SendOp{}, nil)
}

// drawnSendOp has things in the fields that its kind does not ask for, too.
func drawnSendOp(more *numbers, s *askedSender) impl.SendOp {
	op := impl.SendOp{Kind: []int{1, 1, 2, 3, 3, 4, 4, 4, 4, 5, 5, 5, 6, 6, 6}[more.below(15)], Off: near(more, 0, s.sent()), N: near(more, 0, s.credit, s.sent()), Data: more.bytes(more.below(1 + more.below(30))), Fin: more.below(4) == 0}
	switch {
	case more.below(60) == 0:
		op.Kind = near(more, 0, 9)
	case more.below(60) == 0:
		op.Kind = 7 + more.below(2)
	case op.Kind == 2 && more.below(3) != 0:
		op.Kind = 4
	case op.Kind == 3:
		op.N = near(more, s.credit, s.credit+5, len(s.written))
	}
	if op.Kind == 4 && more.below(8) != 0 {
		op.N = 1 + more.below(1+more.below(20))
	}
	if (op.Kind == 5 || op.Kind == 6) && more.below(8) != 0 {
		op.Off = more.below(s.sent() + 1)
		op.N = more.below(s.sent() - op.Off + 1)
		if op.Fin {
			op.N = s.sent() - op.Off
		}
	}
	return op
}

func TestSendDrawn(t *testing.T) {
	more := numbers(72)
	for range 6000 {
		s := newAskedSender()
		var ops []impl.SendOp
		var want []impl.SendObs
		for range 1 + more.below(70) {
			op := drawnSendOp(&more, s)
			ops = append(ops, op)
			want = append(want, s.do(op))
		}
		checkSend(t, ops, want)
	}
}

// sendBook holds what the answers alone say of a sending part, and complains where they break the promise.
type sendBook struct {
	written         []byte
	credit, fresh   int
	finished        bool
	lost, acked     map[int]bool
	finLost, finOut bool
	finAcked        bool
}

func (b *sendBook) piece(t *testing.T, n int, obs impl.SendObs) {
	t.Helper()
	end := obs.Off + len(obs.Data)
	if len(obs.Data) > n || end > len(b.written) || !bytes.Equal(obs.Data, b.written[obs.Off:end]) {
		t.Fatalf("a pull of %d: %s, of %d bytes written", n, toldSendObs(obs), len(b.written))
	}
	if end > b.credit && len(obs.Data) > 0 {
		t.Fatalf("%s goes beyond the credit %d", toldSendObs(obs), b.credit)
	}
	if len(obs.Data) == 0 && !obs.Fin {
		t.Fatalf("%s has nothing in it", toldSendObs(obs))
	}
	isNew := len(b.lost) == 0
	for at := obs.Off; at < end; at++ {
		switch {
		case isNew && at != b.fresh:
			t.Fatalf("%s: byte %d is not the next new one, %d", toldSendObs(obs), at, b.fresh)
		case isNew:
			b.fresh++
		case !b.lost[at]:
			t.Fatalf("%s: byte %d was not told as lost", toldSendObs(obs), at)
		}
		delete(b.lost, at)
	}
	if obs.Fin {
		if !b.finished || end != len(b.written) || b.finAcked || len(obs.Data) == 0 && b.finOut && !b.finLost {
			t.Fatalf("%s: Fin may not be there", toldSendObs(obs))
		}
		b.finOut, b.finLost = true, false
	}
}

// noPiece holds against the book that nothing could have been handed out.
func (b *sendBook) noPiece(t *testing.T, obs impl.SendObs) {
	t.Helper()
	if len(b.lost) > 0 || b.fresh < min(b.credit, len(b.written)) || b.finished && b.fresh == len(b.written) && !b.finAcked && (!b.finOut || b.finLost) {
		t.Fatalf("no piece was handed out: %d lost, new from %d on, credit %d, %d written", len(b.lost), b.fresh, b.credit, len(b.written))
	}
	if obs.Blocked != (b.fresh < len(b.written)) {
		t.Fatalf("Blocked is %v, new from %d on of %d written", obs.Blocked, b.fresh, len(b.written))
	}
}

func (b *sendBook) told(op impl.SendOp) {
	for at := op.Off; at < op.Off+op.N; at++ {
		if op.Kind == impl.SAcked {
			b.acked[at] = true
			delete(b.lost, at)
		} else if !b.acked[at] {
			b.lost[at] = true
		}
	}
	if op.Fin && op.Kind == impl.SAcked {
		b.finAcked, b.finLost = true, false
	} else if op.Fin && !b.finAcked {
		b.finLost = true
	}
}

// drawnTold tells about some of what has been on its way.
func (b *sendBook) drawnTold(more *numbers) impl.SendOp {
	op := impl.SendOp{Kind: impl.SAcked + more.below(2), Off: more.below(b.fresh + 1)}
	op.N = more.below(b.fresh - op.Off + 1)
	if b.finOut && more.below(2) == 0 {
		op.N, op.Fin = len(b.written)-op.Off, true
	}
	return op
}

func (b *sendBook) drawnOp(more *numbers) impl.SendOp {
	switch more.below(12) {
	case 0, 1:
		if !b.finished {
			return impl.SendOp{Kind: impl.SWrite, Data: more.bytes(more.below(40))}
		}
	case 2:
		return creditOp(b.credit + more.below(40) - 10)
	case 3:
		if !b.finished && more.below(4) == 0 {
			return finishOp()
		}
	case 4, 5, 6:
		return b.drawnTold(more)
	}
	return pullOp(1 + more.below(1+more.below(30)))
}

func (b *sendBook) enter(t *testing.T, op impl.SendOp, obs impl.SendObs) {
	t.Helper()
	if obs.Code != impl.OK && (op.Kind != impl.SCredit || op.N >= 0) {
		t.Fatalf("%+v: %s", op, toldSendObs(obs))
	}
	switch op.Kind {
	case impl.SWrite:
		b.written = append(b.written, op.Data...)
	case impl.SFinish:
		b.finished = true
	case impl.SCredit:
		b.credit = max(b.credit, op.N)
	case impl.SPull:
		if obs.Some {
			b.piece(t, op.N, obs)
		} else {
			b.noPiece(t, obs)
		}
	case impl.SAcked, impl.SLost:
		b.told(op)
	}
	if done := b.finAcked && len(b.acked) == len(b.written); done != (obs.State == impl.SsDone) {
		t.Fatalf("behind %+v the state is %d, %d of %d bytes are acknowledged, Fin %v", op, obs.State, len(b.acked), len(b.written), b.finAcked)
	}
}

func TestP8ByTheAnswersAlone(t *testing.T) {
	more := numbers(73)
	for range 250 {
		book := sendBook{lost: map[int]bool{}, acked: map[int]bool{}}
		var ops []impl.SendOp
		run := func(op impl.SendOp) int {
			t.Helper()
			ops = append(ops, op)
			got, _ := impl.SendRun(ops)
			last := got[len(got)-1]
			book.enter(t, op, last)
			return last.State
		}
		state := impl.SsReady
		for range 10 + more.below(110) {
			if state = run(book.drawnOp(&more)); state == impl.SsDone {
				break
			}
		}
		if state == impl.SsDone {
			continue
		}
		if !book.finished {
			run(finishOp())
		}
		run(creditOp(math.MaxInt))
		for len(ops) < 400 && (!book.finOut || book.finLost || len(book.lost) > 0) {
			run(pullOp(1500))
		}
		if state := run(ackedFinOp(0, len(book.written))); state != impl.SsDone {
			t.Fatalf("with all acknowledged the state is %d", state)
		}
	}
}

func TestP1SendTakesAnyIntegers(t *testing.T) {
	for _, v := range oddInts() {
		mustEnd(t, fmt.Sprintf("SendRun with %d", v), func() {
			for _, ops := range sendStates() {
				for _, w := range []int{v, 0, 1, -1, math.MinInt, math.MaxInt} {
					for kind := range 10 {
						checkSendAsked(t, append(slices.Clone(ops), impl.SendOp{Kind: kind, Off: v, N: w}, pullOp(3)))
						checkSendAsked(t, append(slices.Clone(ops), impl.SendOp{Kind: kind, Off: w, N: v, Data: []byte("ab"), Fin: true}, pullOp(3)))
					}
					checkSendAsked(t, append(slices.Clone(ops), impl.SendOp{Kind: v, Off: w, N: w, Fin: true}))
				}
			}
		})
	}
}
