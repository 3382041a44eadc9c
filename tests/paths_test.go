package tests

import (
	"fmt"
	"math"
	"slices"
	"strings"
	"testing"

	"loop.example/g00012/impl"
)

// askedChallenge is one that was sent, and where to.
type askedChallenge struct {
	data  string
	addr  int
	waits bool
}

// askedPaths goes by the chapter, word by word: it holds all that came and was sent, and adds it up each time.
type askedPaths struct {
	server     bool
	used       int
	came, sent map[int]int
	valid      map[int]bool
	challenges []askedChallenge
	// How often a thing was met that a run meets seldom.
	moves, elsewhere, forgotten, several, refused int
}

func newAskedPaths(server bool) *askedPaths {
	return &askedPaths{server: server, came: map[int]int{}, sent: map[int]int{}, valid: map[int]bool{0: !server}}
}

func (a *askedPaths) may() int {
	switch left := 3*a.came[a.used] - a.sent[a.used]; {
	case a.valid[a.used]:
		return maxVar
	case left < 0:
		return 0
	default:
		return left
	}
}

func (a *askedPaths) waiting() []int {
	var places []int
	for i, c := range a.challenges {
		if c.waits {
			places = append(places, i)
		}
	}
	return places
}

func (a *askedPaths) challenge(data string) {
	if places := a.waiting(); len(places) == 4 {
		a.challenges[places[0]].waits = false
		a.forgotten++
	}
	a.challenges = append(a.challenges, askedChallenge{data, a.used, true})
}

func (a *askedPaths) answer(data string) bool {
	same := slices.DeleteFunc(a.waiting(), func(i int) bool { return a.challenges[i].data != data })
	if len(same) == 0 {
		return false
	}
	addr := a.challenges[same[0]].addr
	a.several += way(len(same) > 1)
	a.elsewhere += way(addr != a.used)
	a.valid[addr] = true
	for i := range a.challenges {
		if a.challenges[i].addr == addr {
			a.challenges[i].waits = false
		}
	}
	return true
}

func (a *askedPaths) do(op impl.PathOp) (answered bool, code int) {
	data := string(op.Data)
	if !inRange(op.Addr, 0, 255) || !inRange(op.N, 0, 2000) || !inRange(op.Kind, 1, 4) || op.Kind > 2 && len(data) != 8 {
		return false, impl.ErrBad
	}
	switch op.Kind {
	case 1:
		if !a.server && op.Addr != a.used {
			return false, impl.ErrState
		}
		a.moves += way(op.Addr != a.used)
		a.used = op.Addr
		a.came[op.Addr] += op.N
	case 2:
		if op.N > a.may() {
			a.refused++
			return false, impl.ErrFlow
		}
		a.sent[a.used] += op.N
	case 3:
		a.challenge(data)
	case 4:
		return a.answer(data), impl.OK
	}
	return false, impl.OK
}

func (a *askedPaths) run(op impl.PathOp) impl.PathObs {
	answered, code := a.do(op)
	return impl.PathObs{Code: code, Addr: a.used, May: a.may(), Valid: a.valid[a.used], Answer: answered}
}

func comes(addr, n int) impl.PathOp { return impl.PathOp{Kind: 1, Addr: addr, N: n} }

func goes(n int) impl.PathOp { return impl.PathOp{Kind: 2, N: n} }

func challenges(data string) impl.PathOp { return impl.PathOp{Kind: 3, Data: []byte(data)} }

func responds(data string) impl.PathOp { return impl.PathOp{Kind: 4, Data: []byte(data)} }

// Data of eight bytes, no two the same.
const (
	dataA = "aaaaaaaa"
	dataB = "bbbbbbbb"
	dataC = "cccccccc"
	dataD = "dddddddd"
	dataE = "eeeeeeee"
	dataF = "ffffffff"
)

// pathWant is what is to be answered, put together bit by bit.
type pathWant impl.PathObs

func unsure(addr, may int) pathWant { return pathWant{Addr: addr, May: may} }

func sure(addr int) pathWant { return pathWant{Addr: addr, May: maxVar, Valid: true} }

func (w pathWant) answered() pathWant { w.Answer = true; return w }

func (w pathWant) code(code int) pathWant { w.Code = code; return w }

func (w pathWant) bad() pathWant { return w.code(impl.ErrBad) }

func (w pathWant) beyond() pathWant { return w.code(impl.ErrFlow) }

// pathStep is an operation and what is to be answered to it.
type pathStep struct {
	op   impl.PathOp
	want pathWant
}

func pathRun(server bool) askedRun[impl.PathOp, impl.PathObs] {
	return askedRun[impl.PathOp, impl.PathObs]{
		name:  fmt.Sprintf("PathRun(%v)", server),
		does:  func(ops []impl.PathOp) ([]impl.PathObs, int) { return impl.PathRun(server, ops) },
		asked: func() func(impl.PathOp) impl.PathObs { return newAskedPaths(server).run },
		same:  func(a, b impl.PathObs) bool { return a == b },
	}
}

func checkPathSteps(t *testing.T, server bool, steps []pathStep) {
	t.Helper()
	var ops []impl.PathOp
	var want []impl.PathObs
	for _, s := range steps {
		ops, want = append(ops, s.op), append(want, impl.PathObs(s.want))
	}
	pathRun(server).checkEach(t, ops, want)
}

// bothEnds asks of a client and of a server.
func bothEnds(ask func(server bool)) {
	for _, server := range []bool{false, true} {
		ask(server)
	}
}

func TestP12AServerAtFirst(t *testing.T) {
	checkPathSteps(t, true, []pathStep{
		{goes(0), unsure(0, 0)}, {goes(1), unsure(0, 0).beyond()}, {goes(2000), unsure(0, 0).beyond()}, {comes(0, 0), unsure(0, 0)}, {goes(1), unsure(0, 0).beyond()}, {comes(0, 1), unsure(0, 3)}, {goes(4), unsure(0, 3).beyond()}, {goes(3), unsure(0, 0)}, {goes(1), unsure(0, 0).beyond()}, {goes(0), unsure(0, 0)},
		{comes(0, 2000), unsure(0, 6000)}, {goes(2000), unsure(0, 4000)}, {goes(2000), unsure(0, 2000)}, {goes(1999), unsure(0, 1)}, {goes(2), unsure(0, 1).beyond()}, {goes(2000), unsure(0, 1).beyond()}, {goes(1), unsure(0, 0)}, {goes(1), unsure(0, 0).beyond()}, {comes(0, 7), unsure(0, 21)}, {goes(22), unsure(0, 21).beyond()}, {goes(21), unsure(0, 0)},
	})
}

func TestP12AClientStays(t *testing.T) {
	checkPathSteps(t, false, []pathStep{
		{goes(0), sure(0)}, {goes(2000), sure(0)}, {goes(1), sure(0)}, {comes(0, 5), sure(0)}, {goes(2000), sure(0)}, {comes(1, 5), sure(0).code(impl.ErrState)}, {comes(255, 0), sure(0).code(impl.ErrState)}, {comes(0, 0), sure(0)}, {goes(2000), sure(0)},
		{challenges(dataA), sure(0)}, {comes(3, 2000), sure(0).code(impl.ErrState)}, {responds(dataB), sure(0)}, {responds(dataA), sure(0).answered()}, {responds(dataA), sure(0)}, {comes(0, 2000), sure(0)},
	})
	var steps []pathStep
	for range 300 {
		steps = append(steps, pathStep{goes(2000), sure(0)})
	}
	checkPathSteps(t, false, steps)
}

// Of each address it is known what came from it and was sent to it, also when another one was used in between.
func TestP12ThereAndBack(t *testing.T) {
	checkPathSteps(t, true, []pathStep{
		{comes(0, 100), unsure(0, 300)}, {goes(250), unsure(0, 50)}, {comes(7, 10), unsure(7, 30)}, {goes(31), unsure(7, 30).beyond()}, {goes(30), unsure(7, 0)}, {goes(1), unsure(7, 0).beyond()}, {comes(0, 0), unsure(0, 50)}, {goes(51), unsure(0, 50).beyond()}, {goes(50), unsure(0, 0)},
		{comes(7, 0), unsure(7, 0)}, {comes(7, 1), unsure(7, 3)}, {goes(2), unsure(7, 1)}, {comes(255, 2000), unsure(255, 6000)}, {goes(2000), unsure(255, 4000)}, {comes(0, 3), unsure(0, 9)}, {comes(7, 0), unsure(7, 1)}, {comes(255, 1), unsure(255, 4003)}, {comes(254, 0), unsure(254, 0)}, {goes(1), unsure(254, 0).beyond()},
		{comes(1, 5), unsure(1, 15)}, {comes(2, 6), unsure(2, 18)}, {comes(1, 0), unsure(1, 15)}, {comes(2, 0), unsure(2, 18)}, {comes(0, 0), unsure(0, 9)},
	})
	// Every address for itself.
	var there, back []pathStep
	for addr := range 145 {
		there = append(there, pathStep{comes(addr, addr), unsure(addr, 3*addr)})
		back = append(back, pathStep{comes(addr, 1), unsure(addr, 3*addr+3)})
	}
	checkPathSteps(t, true, append(there, back...))
	there, back = nil, nil
	for addr := 255; addr > 110; addr-- {
		there = append(there, pathStep{comes(addr, addr), unsure(addr, 3*addr)})
		back = append(back, pathStep{comes(addr, 0), unsure(addr, 3*addr)})
	}
	checkPathSteps(t, true, append(there, back...))
}

func TestP12AnAnswerValidates(t *testing.T) {
	checkPathSteps(t, true, []pathStep{
		{comes(0, 1), unsure(0, 3)}, {responds(dataA), unsure(0, 3)}, {challenges(dataA), unsure(0, 3)}, {responds(dataB), unsure(0, 3)}, {responds(dataA), sure(0).answered()}, {responds(dataA), sure(0)}, {goes(2000), sure(0)}, {goes(2000), sure(0)},
		// What was sent to it and came from it counts no more.
		{comes(5, 9), unsure(5, 27)}, {responds(dataA), unsure(5, 27)}, {comes(0, 0), sure(0)}, {goes(2000), sure(0)}, {comes(5, 0), unsure(5, 27)}, {challenges(dataA), unsure(5, 27)}, {responds(dataA), sure(5).answered()}, {comes(0, 0), sure(0)}, {comes(5, 0), sure(5)},
		{comes(6, 0), unsure(6, 0)}, {challenges(dataC), unsure(6, 0)}, {goes(1), unsure(6, 0).beyond()}, {responds(dataC), sure(6).answered()}, {goes(2000), sure(6)},
	})
	// One that is validated is so again.
	checkPathSteps(t, true, []pathStep{{challenges(dataA), unsure(0, 0)}, {responds(dataA), sure(0).answered()}, {challenges(dataA), sure(0)}, {challenges(dataB), sure(0)}, {responds(dataB), sure(0).answered()}, {responds(dataA), sure(0)}})
}

// The address to which the challenge went is validated, whichever is in use when the answer comes.
func TestP12AnAnswerBehindAMove(t *testing.T) {
	checkPathSteps(t, true, []pathStep{
		{comes(2, 10), unsure(2, 30)}, {challenges(dataA), unsure(2, 30)}, {comes(0, 1), unsure(0, 3)}, {responds(dataA), unsure(0, 3).answered()}, {goes(4), unsure(0, 3).beyond()}, {responds(dataA), unsure(0, 3)}, {comes(2, 0), sure(2)}, {goes(2000), sure(2)}, {comes(0, 0), unsure(0, 3)},
	})
	checkPathSteps(t, true, []pathStep{
		{comes(9, 1), unsure(9, 3)}, {challenges(dataA), unsure(9, 3)}, {comes(8, 2), unsure(8, 6)}, {challenges(dataB), unsure(8, 6)}, {comes(7, 3), unsure(7, 9)}, {challenges(dataC), unsure(7, 9)}, {responds(dataB), unsure(7, 9).answered()}, {comes(9, 0), unsure(9, 3)}, {comes(8, 0), sure(8)}, {responds(dataC), sure(8).answered()},
		{comes(9, 0), unsure(9, 3)}, {comes(7, 0), sure(7)}, {responds(dataA), sure(7).answered()}, {comes(9, 0), sure(9)}, {comes(0, 0), unsure(0, 0)},
	})
	// The Addr of an answer, or of a challenge, tells nothing.
	away, sent := responds(dataA), challenges(dataA)
	away.Addr, sent.Addr = 4, 5
	checkPathSteps(t, true, []pathStep{{comes(2, 10), unsure(2, 30)}, {sent, unsure(2, 30)}, {comes(3, 1), unsure(3, 3)}, {away, unsure(3, 3).answered()}, {comes(4, 0), unsure(4, 0)}, {comes(5, 0), unsure(5, 0)}, {comes(3, 0), unsure(3, 3)}, {comes(2, 0), sure(2)}})
}

// All that wait for an address are forgotten when it is validated; those for another are not.
func TestP12WhatIsForgottenWithAnAnswer(t *testing.T) {
	checkPathSteps(t, true, []pathStep{
		{challenges(dataA), unsure(0, 0)}, {challenges(dataB), unsure(0, 0)}, {comes(1, 1), unsure(1, 3)}, {challenges(dataC), unsure(1, 3)}, {comes(0, 0), unsure(0, 0)}, {challenges(dataD), unsure(0, 0)}, {responds(dataB), sure(0).answered()}, {responds(dataA), sure(0)}, {responds(dataD), sure(0)}, {responds(dataB), sure(0)}, {responds(dataC), sure(0).answered()}, {comes(1, 0), sure(1)},
	})
	// There is room for as many again.
	checkPathSteps(t, true, []pathStep{
		{comes(1, 1), unsure(1, 3)}, {challenges(dataA), unsure(1, 3)}, {comes(2, 1), unsure(2, 3)}, {challenges(dataB), unsure(2, 3)}, {challenges(dataC), unsure(2, 3)}, {challenges(dataD), unsure(2, 3)}, {responds(dataC), sure(2).answered()}, {challenges(dataB), sure(2)}, {challenges(dataC), sure(2)}, {challenges(dataD), sure(2)}, {responds(dataA), sure(2).answered()}, {comes(1, 0), sure(1)},
	})
}

// Four are remembered, of all addresses together; the oldest goes.
func TestP12FourChallenges(t *testing.T) {
	four := []pathStep{{challenges(dataA), unsure(0, 0)}, {challenges(dataB), unsure(0, 0)}, {challenges(dataC), unsure(0, 0)}, {challenges(dataD), unsure(0, 0)}}
	for _, data := range []string{dataA, dataB, dataC, dataD} {
		checkPathSteps(t, true, append(slices.Clone(four), pathStep{responds(data), sure(0).answered()}))
	}
	checkPathSteps(t, true, append(slices.Clone(four), pathStep{responds(dataE), unsure(0, 0)}))
	five := append(slices.Clone(four), pathStep{challenges(dataE), unsure(0, 0)})
	checkPathSteps(t, true, append(slices.Clone(five), pathStep{responds(dataA), unsure(0, 0)}, pathStep{responds(dataB), sure(0).answered()}))
	checkPathSteps(t, true, append(slices.Clone(five), pathStep{responds(dataE), sure(0).answered()}))
	six := append(slices.Clone(five), pathStep{challenges(dataF), unsure(0, 0)})
	checkPathSteps(t, true, append(slices.Clone(six), pathStep{responds(dataA), unsure(0, 0)}, pathStep{responds(dataB), unsure(0, 0)}, pathStep{responds(dataC), sure(0).answered()}))
	// The oldest of all, though it went to another address than the others.
	moved := []pathStep{{comes(1, 1), unsure(1, 3)}, {challenges(dataA), unsure(1, 3)}, {comes(2, 1), unsure(2, 3)}, {challenges(dataB), unsure(2, 3)}, {challenges(dataC), unsure(2, 3)}, {comes(3, 1), unsure(3, 3)}, {challenges(dataD), unsure(3, 3)}}
	checkPathSteps(t, true, append(slices.Clone(moved), pathStep{responds(dataA), unsure(3, 3).answered()}, pathStep{comes(1, 0), sure(1)}))
	moved = append(moved, pathStep{challenges(dataE), unsure(3, 3)})
	checkPathSteps(t, true, append(slices.Clone(moved), pathStep{responds(dataA), unsure(3, 3)}, pathStep{comes(1, 0), unsure(1, 3)}, pathStep{responds(dataC), unsure(1, 3).answered()}, pathStep{responds(dataE), unsure(1, 3).answered()}, pathStep{comes(3, 0), sure(3)}))
	// An answer that fits none, and a challenge that is refused, push none out.
	checkPathSteps(t, true, append(slices.Clone(four), pathStep{responds(dataE), unsure(0, 0)}, pathStep{challenges("aaaaaaa"), unsure(0, 0).bad()}, pathStep{responds(dataA), sure(0).answered()}))
	bothEnds(func(server bool) {
		ops := []impl.PathOp{challenges(dataA), challenges(dataB), challenges(dataC), challenges(dataD), challenges(dataE), responds(dataA), responds(dataB), responds(dataC)}
		pathRun(server).checkAsked(t, ops)
		got, _ := impl.PathRun(server, ops)
		if got[5].Answer || !got[6].Answer || got[7].Answer {
			t.Errorf("server %v: %+v", server, got)
		}
	})
}

// The same Data twice waits twice; of two addresses it is the one that waits longest.
func TestP12TheSameChallengeTwice(t *testing.T) {
	checkPathSteps(t, true, []pathStep{{challenges(dataA), unsure(0, 0)}, {challenges(dataA), unsure(0, 0)}, {responds(dataA), sure(0).answered()}, {responds(dataA), sure(0)}})
	checkPathSteps(t, true, []pathStep{
		{comes(1, 1), unsure(1, 3)}, {challenges(dataA), unsure(1, 3)}, {comes(2, 1), unsure(2, 3)}, {challenges(dataA), unsure(2, 3)}, {responds(dataA), unsure(2, 3).answered()}, {comes(1, 0), sure(1)}, {comes(2, 0), unsure(2, 3)}, {responds(dataA), sure(2).answered()}, {responds(dataA), sure(2)}, {comes(1, 0), sure(1)},
	})
	checkPathSteps(t, true, []pathStep{
		{comes(2, 1), unsure(2, 3)}, {challenges(dataA), unsure(2, 3)}, {comes(1, 1), unsure(1, 3)}, {challenges(dataA), unsure(1, 3)}, {comes(2, 0), unsure(2, 3)}, {challenges(dataA), unsure(2, 3)}, {responds(dataA), sure(2).answered()}, {comes(1, 0), unsure(1, 3)}, {responds(dataA), sure(1).answered()}, {responds(dataA), sure(1)},
	})
	// It counts among the four as often as it was sent.
	checkPathSteps(t, true, []pathStep{
		{comes(1, 1), unsure(1, 3)}, {challenges(dataB), unsure(1, 3)}, {comes(2, 1), unsure(2, 3)}, {challenges(dataA), unsure(2, 3)}, {challenges(dataA), unsure(2, 3)}, {challenges(dataA), unsure(2, 3)}, {challenges(dataA), unsure(2, 3)}, {responds(dataB), unsure(2, 3)}, {responds(dataA), sure(2).answered()},
	})
	// The one that waits longest may have been pushed out.
	checkPathSteps(t, true, []pathStep{
		{comes(1, 1), unsure(1, 3)}, {challenges(dataA), unsure(1, 3)}, {comes(2, 1), unsure(2, 3)}, {challenges(dataA), unsure(2, 3)}, {challenges(dataB), unsure(2, 3)}, {challenges(dataC), unsure(2, 3)}, {challenges(dataD), unsure(2, 3)}, {responds(dataA), sure(2).answered()}, {comes(1, 0), unsure(1, 3)}, {responds(dataA), unsure(1, 3)},
	})
}

// Data that is nearly the same is no answer.
func TestP12NearlyTheSame(t *testing.T) {
	data := "\x00\x01\x02\x03\xff\xfe\x80\x7f"
	for at := range 8 {
		for bit := range 8 {
			other := []byte(data)
			other[at] ^= 1 << bit
			checkPathSteps(t, true, []pathStep{{challenges(data), unsure(0, 0)}, {responds(string(other)), unsure(0, 0)}, {responds(data), sure(0).answered()}})
		}
	}
	for _, cut := range []string{"", data[:1], data[:7], data + "\x00", data + data} {
		checkPathSteps(t, true, []pathStep{{challenges(data), unsure(0, 0)}, {responds(cut), unsure(0, 0).bad()}, {responds(data), sure(0).answered()}, {challenges(cut), sure(0).bad()}})
		checkPathSteps(t, true, []pathStep{{challenges(cut), unsure(0, 0).bad()}, {responds(data), unsure(0, 0)}})
	}
	zero := "\x00\x00\x00\x00\x00\x00\x00\x00"
	checkPathSteps(t, true, []pathStep{{responds(zero), unsure(0, 0)}, {challenges(dataA), unsure(0, 0)}, {responds(zero), unsure(0, 0)}, {challenges(zero), unsure(0, 0)}, {responds(zero), sure(0).answered()}})
}

// pathKinds is an operation of each kind, each right in the middle of pathMiddle.
func pathKinds() []impl.PathOp {
	return []impl.PathOp{comes(3, 7), goes(7), challenges(dataE), responds(dataB)}
}

// pathMiddle is a run that has met something: 4 is validated, dataB waits for 0 and dataC for 3, which a server uses.
func pathMiddle() []impl.PathOp {
	return []impl.PathOp{comes(0, 10), goes(9), challenges(dataB), comes(4, 1), challenges(dataA), comes(3, 20), challenges(dataC), responds(dataA), goes(33)}
}

// checkPathRefused puts an operation behind pathMiddle: Addr, Valid and May are told as they stand, and nothing has changed.
func checkPathRefused(t *testing.T, op impl.PathOp, code int) {
	t.Helper()
	bothEnds(func(server bool) {
		t.Helper()
		ahead := pathMiddle()
		stand := unsure(3, 27)
		if !server {
			stand = sure(0)
		}
		want := pathRun(server).want(ahead)
		behind := []impl.PathOp{goes(0), responds(dataC), goes(27), comes(0, 0), responds(dataB), responds(dataE), comes(4, 0)}
		whole := pathRun(server).want(slices.Concat(ahead, behind))
		refused := impl.PathObs(stand.code(code))
		pathRun(server).check(t, slices.Concat(ahead, []impl.PathOp{op, op}, behind), slices.Concat(want, []impl.PathObs{refused, refused}, whole[len(ahead):]))
	})
}

func TestPathsFieldsOutOfRange(t *testing.T) {
	for _, op := range pathKinds() {
		for _, addr := range []int{-1, -2, 256, 257, 259, 512, math.MinInt, math.MaxInt} {
			wrong := op
			wrong.Addr = addr
			checkPathRefused(t, wrong, impl.ErrBad)
		}
		for _, n := range []int{-1, -2, 2001, 2002, 65536, maxVar, math.MinInt, math.MaxInt} {
			wrong := op
			wrong.N = n
			checkPathRefused(t, wrong, impl.ErrBad)
			wrong.Addr = -1
			checkPathRefused(t, wrong, impl.ErrBad)
		}
	}
	for _, kind := range []int{impl.PChallenge, impl.PAnswer} {
		for _, count := range []int{0, 1, 7, 9, 10, 16, 264, 70000} {
			checkPathRefused(t, impl.PathOp{Kind: kind, Data: []byte(strings.Repeat("b", count))}, impl.ErrBad)
			checkPathRefused(t, impl.PathOp{Kind: kind, Addr: 3, N: 2000, Data: []byte(strings.Repeat("c", count))}, impl.ErrBad)
		}
	}
}

// Within their range the fields that a kind does not ask for tell nothing.
func TestP12FieldsNotAskedFor(t *testing.T) {
	bothEnds(func(server bool) {
		for place, op := range pathKinds() {
			want := pathRun(server).want(append(pathMiddle(), op, goes(1)))
			for _, v := range []int{0, 1, 3, 4, 254, 255} {
				for _, n := range []int{0, 1, 7, 1999, 2000} {
					for _, data := range [][]byte{nil, {}, []byte(dataA), []byte(dataB), []byte(dataC), []byte("short"), []byte("longer than eight")} {
						other := op
						if place > 0 {
							other.Addr = v
						}
						if place > 1 {
							other.N = n
						} else {
							other.Data = data
						}
						pathRun(server).check(t, append(pathMiddle(), other, goes(1)), want)
					}
				}
			}
		}
	})
}

func TestPathsOtherKinds(t *testing.T) {
	for _, other := range []int{0, -1, -2, 5, 6, 26, 27, 255, 256, 257, 258, 259, 260, math.MinInt, math.MaxInt} {
		checkPathRefused(t, impl.PathOp{Kind: other}, impl.ErrBad)
		for _, op := range pathKinds() {
			op.Kind = other
			checkPathRefused(t, op, impl.ErrBad)
		}
		checkPathRefused(t, impl.PathOp{Kind: other, Addr: 3, N: 27, Data: []byte(dataC)}, impl.ErrBad)
		checkPathRefused(t, impl.PathOp{Kind: other, Addr: -1, N: -1}, impl.ErrBad)
	}
}

func TestP12FieldsAtTheirEnds(t *testing.T) {
	checkPathSteps(t, true, []pathStep{{comes(255, 2000), unsure(255, 6000)}, {comes(255, 0), unsure(255, 6000)}, {comes(0, 2000), unsure(0, 6000)}, {goes(2000), unsure(0, 4000)}, {goes(0), unsure(0, 4000)}, {comes(1, 0), unsure(1, 0)}})
	for _, op := range []impl.PathOp{comes(256, 5), comes(-1, 5), comes(5, -1), comes(5, 2001), {Kind: 2, N: 2001}, {Kind: 2, N: -1}, {Kind: 2, N: 1, Addr: 256}, {Kind: 2, N: 1, Addr: -1}} {
		checkPathSteps(t, true, []pathStep{{op, unsure(0, 0).bad()}, {comes(0, 2000), unsure(0, 6000)}, {op, unsure(0, 6000).bad()}, {goes(2000), unsure(0, 4000)}})
		checkPathSteps(t, false, []pathStep{{op, sure(0).bad()}, {goes(2000), sure(0)}, {op, sure(0).bad()}})
	}
}

// Of two faults the one that the chapter names first is told.
func TestPathsOrderOfCodes(t *testing.T) {
	// A client hears another address, with a wrong one or a wrong N.
	for _, op := range []impl.PathOp{comes(256, 1), comes(-1, 1), comes(1, -1), comes(1, 2001), comes(300, 5000), comes(math.MinInt, 0), comes(5, math.MaxInt)} {
		checkPathSteps(t, false, []pathStep{{comes(1, 1), sure(0).code(impl.ErrState)}, {op, sure(0).bad()}})
	}
	// More than may be sent, with a wrong N or Addr.
	for _, op := range []impl.PathOp{goes(2001), goes(math.MaxInt), goes(maxVar), goes(-1), {Kind: 2, N: 4, Addr: 256}, {Kind: 2, N: 4, Addr: -1}} {
		checkPathSteps(t, true, []pathStep{{comes(0, 1), unsure(0, 3)}, {goes(4), unsure(0, 3).beyond()}, {op, unsure(0, 3).bad()}})
	}
}

// Nothing is sent with a code, so nothing counts.
func TestP12WhatIsRefusedCountsNot(t *testing.T) {
	checkPathSteps(t, true, []pathStep{
		{comes(0, 10), unsure(0, 30)}, {goes(31), unsure(0, 30).beyond()}, {goes(31), unsure(0, 30).beyond()}, {goes(2001), unsure(0, 30).bad()}, {comes(0, 2001), unsure(0, 30).bad()}, {comes(256, 10), unsure(0, 30).bad()}, {challenges("short"), unsure(0, 30).bad()}, {goes(30), unsure(0, 0)}, {comes(9, -1), unsure(0, 0).bad()}, {comes(9, 0), unsure(9, 0)},
	})
}

func TestPathsHowMany(t *testing.T) {
	run := func(n int) []impl.PathOp {
		list := make([]impl.PathOp, n)
		for i := range list {
			data := string(fixedBytes(i / 7))
			list[i] = []impl.PathOp{comes(i*7%256, i), challenges(data), goes(i), comes(0, 3), goes(9), responds(data), goes(i)}[i%7]
		}
		return list
	}
	bothEnds(func(server bool) {
		for _, n := range []int{0, 1, 2, 299, 300} {
			pathRun(server).checkAsked(t, run(n))
		}
		pathRun(server).check(t, nil, nil)
		pathRun(server).check(t, []impl.PathOp{}, nil)
		pathRun(server).checkAsked(t, make([]impl.PathOp, 300))
		for _, n := range []int{301, 302, 5000} {
			pathRun(server).refuses(t, run(n), impl.ErrLong)
			pathRun(server).refuses(t, make([]impl.PathOp, n), impl.ErrLong)
		}
	})
}

// The most that a run can hear and send.
func TestP12TheMost(t *testing.T) {
	var steps []pathStep
	for i := range 75 {
		steps = append(steps, pathStep{comes(9, 2000), unsure(9, 6000*(i+1))})
	}
	for i := range 225 {
		steps = append(steps, pathStep{goes(2000), unsure(9, 450000-2000*(i+1))})
	}
	checkPathSteps(t, true, steps)
}
