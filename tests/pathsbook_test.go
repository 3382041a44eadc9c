package tests

import (
	"fmt"
	"math"
	"slices"
	"testing"

	"loop.example/g00012/impl"
)

// drawnPathOp has things in the fields that its kind does not ask for, too.
func drawnPathOp(more *numbers, a *askedPaths, addrs, datas int) impl.PathOp {
	op := impl.PathOp{Kind: 1 + more.below(4), N: more.below(1 << more.below(11)), Addr: a.used, Data: fixedBytes(more.below(datas))}
	if more.below(3) == 0 {
		op.Addr = more.below(addrs)
	}
	if may := a.may(); op.Kind == 2 && may < 1999 && more.below(2) == 0 {
		op.N = max(0, may-1+more.below(3))
	}
	if places := a.waiting(); op.Kind == 4 && len(places) > 0 && more.below(3) != 0 {
		op.Data = []byte(a.challenges[places[more.below(len(places))]].data)
	}
	switch more.below(100) {
	case 0:
		op.Kind = near(more, 0, 4)
	case 1:
		op.N = near(more, 0, 2000, a.may())
	case 2:
		op.Addr = near(more, 0, 255)
	case 3:
		op.Data = more.bytes(more.below(12))
	case 4:
		op.Data = op.Data[:7]
	}
	return op
}

// drawnPaths is a run, what is to be answered to it, and what the answers were worked out with.
func drawnPaths(more *numbers, server bool, count int) ([]impl.PathOp, []impl.PathObs, *askedPaths) {
	a := newAskedPaths(server)
	addrs, datas := 1<<more.below(9), 1+more.below(12)
	var ops []impl.PathOp
	var want []impl.PathObs
	for range count {
		op := drawnPathOp(more, a, addrs, datas)
		ops, want = append(ops, op), append(want, a.run(op))
	}
	return ops, want, a
}

func TestPathsDrawn(t *testing.T) {
	more := numbers(101)
	moves, elsewhere, forgotten, several, refused, answers, stays := 0, 0, 0, 0, 0, 0, 0
	for range 20000 {
		server := more.below(8) != 0
		ops, want, a := drawnPaths(&more, server, 1+more.below(60))
		pathRun(server).check(t, ops, want)
		moves, elsewhere, forgotten, several, refused = moves+a.moves, elsewhere+a.elsewhere, forgotten+a.forgotten, several+a.several, refused+a.refused
		for _, obs := range want {
			answers += way(obs.Answer)
			stays += way(obs.Code == impl.ErrState)
		}
	}
	if min(moves, elsewhere, forgotten, several, refused, answers, stays) < 2000 {
		t.Errorf("%d moves, %d answers for another address than the one in use, %d challenges pushed out, %d answers to several, %d not sent, %d answers, %d times a client stays", moves, elsewhere, forgotten, several, refused, answers, stays)
	}
}

// pathBook holds what was told, by the operations and answers alone.
type pathBook struct {
	server bool
	// came and sent are of all that was not refused; where holds to which addresses each challenge went so far.
	came, sent map[int]int
	where      map[string][]int
	// answered are the addresses to which a challenge went that was answered; seen those that were told as validated.
	answered, seen map[int]bool
	used           int
}

func newPathBook(server bool) *pathBook {
	return &pathBook{server: server, came: map[int]int{}, sent: map[int]int{}, where: map[string][]int{}, answered: map[int]bool{0: !server}, seen: map[int]bool{}}
}

func (b *pathBook) count(t *testing.T, op impl.PathOp, obs impl.PathObs) {
	t.Helper()
	switch {
	case obs.Answer:
		if op.Kind != impl.PAnswer || len(b.where[string(op.Data)]) == 0 {
			t.Fatalf("an answer to no challenge: %+v: %+v", op, obs)
		}
		for _, addr := range b.where[string(op.Data)] {
			b.answered[addr] = true
		}
	case op.Kind == impl.PCame:
		b.used = op.Addr
		b.came[op.Addr] += op.N
	case op.Kind == impl.PSend:
		b.sent[b.used] += op.N
	case op.Kind == impl.PChallenge:
		b.where[string(op.Data)] = append(b.where[string(op.Data)], b.used)
	}
}

func (b *pathBook) enter(t *testing.T, op impl.PathOp, obs impl.PathObs) {
	t.Helper()
	if obs.Code == impl.OK {
		b.count(t, op, obs)
	}
	if obs.Addr != b.used || obs.Code != impl.OK && obs.Answer || !b.server && obs.Addr != 0 {
		t.Fatalf("address %d is in use; %+v: %+v", b.used, op, obs)
	}
	switch {
	case obs.Valid && (!b.answered[b.used] || obs.May != maxVar):
		t.Fatalf("no answer has validated %d: %+v", b.used, obs)
	case obs.Valid:
		b.seen[b.used] = true
	case b.seen[b.used]:
		t.Fatalf("%d was validated: %+v", b.used, obs)
	case b.sent[b.used] > 3*b.came[b.used] || obs.May != 3*b.came[b.used]-b.sent[b.used]:
		t.Fatalf("%d bytes came from %d, %d were sent to it: %+v", b.came[b.used], b.used, b.sent[b.used], obs)
	case obs.Code == impl.ErrFlow && (op.Kind != impl.PSend || op.N <= obs.May):
		t.Fatalf("so much may be sent: %+v: %+v", op, obs)
	}
}

func checkPathBook(t *testing.T, server bool, ops []impl.PathOp) {
	t.Helper()
	book := newPathBook(server)
	for i, obs := range pathRun(server).answers(t, ops) {
		book.enter(t, ops[i], obs)
	}
}

func TestP12ByTheAnswersAlone(t *testing.T) {
	more := numbers(102)
	for range 8000 {
		server := more.below(8) != 0
		ops, _, _ := drawnPaths(&more, server, 20+more.below(130))
		checkPathBook(t, server, ops)
	}
}

// All runs of a few operations, of a few kinds.
func TestP12EveryFewOperations(t *testing.T) {
	choices := []impl.PathOp{comes(0, 1), comes(1, 2), comes(2, 0), goes(3), goes(6), challenges(dataA), challenges(dataB), responds(dataA), responds(dataB), {Kind: 3, Data: []byte("short")}}
	bothEnds(func(server bool) {
		for count := range 6 {
			eachOp(count, choices, nil, func(ops []impl.PathOp) {
				pathRun(server).checkAsked(t, ops)
				checkPathBook(t, server, ops)
			})
		}
	})
}

// pathNet is a server and two that send to it: one at addresses of its own, who answers what comes to it,
// and one who tells addresses that it has not, and so sees no challenge.
type pathNet struct {
	t            *testing.T
	more         numbers
	ops          []impl.PathOp
	last         impl.PathObs
	book         *pathBook
	air          []string
	home, number int
	// heard is what a victim gets, and told what was said in its name.
	heard, told map[int]int
}

func newPathNet(t *testing.T, more numbers) *pathNet {
	return &pathNet{t: t, more: more, book: newPathBook(true), heard: map[int]int{}, told: map[int]int{}}
}

func (n *pathNet) run(op impl.PathOp) {
	n.t.Helper()
	n.ops = append(n.ops, op)
	n.last = pathRun(true).answers(n.t, n.ops)[len(n.ops)-1]
	n.book.enter(n.t, op, n.last)
}

// isHome tells whose address it is: the client's are below 100.
func isHome(addr int) bool { return addr < 100 }

func (n *pathNet) come(addr, count int) {
	moved := addr != n.last.Addr
	n.run(comes(addr, count))
	n.told[addr] += count
	if !moved || n.last.Valid {
		return
	}
	n.number++
	data := string(fixedBytes(n.number))
	n.run(challenges(data))
	if isHome(addr) {
		n.air = append(n.air, data)
	}
}

func (n *pathNet) step() {
	switch n.more.below(8) {
	case 0:
		n.home = n.more.below(100)
	case 1, 2:
		n.come(n.home, n.more.below(300))
	case 3:
		n.come(100+n.more.below(3), n.more.below(50))
	case 4:
		if len(n.air) > 0 {
			at := n.more.below(len(n.air))
			n.run(responds(n.air[at]))
			n.air = slices.Delete(n.air, at, at+1)
		}
	default:
		addr, count := n.last.Addr, n.more.below(1200)
		n.run(goes(count))
		if n.last.Code == impl.OK {
			n.heard[addr] += count
		}
	}
}

// Nobody who only tells an address makes the server send much there; the client's own ones are validated.
func TestP12InANetwork(t *testing.T) {
	homes := 0
	for seed := range 60 {
		n := newPathNet(t, numbers(2000+seed))
		for len(n.ops) < 260 {
			n.step()
		}
		for victim := 100; victim < 103; victim++ {
			if n.heard[victim] > 3*n.told[victim] {
				t.Fatalf("%d bytes went to %d, from which %d seemed to come", n.heard[victim], victim, n.told[victim])
			}
		}
		for addr := range n.book.seen {
			if !isHome(addr) {
				t.Fatalf("%d is validated, and has answered nothing", addr)
			}
			homes++
		}
		// With one challenge, and its answer, any address is validated.
		n.run(comes(50, 1))
		n.run(challenges(dataA))
		n.run(responds(dataA))
		if !n.last.Valid || n.last.Addr != 50 || !n.last.Answer {
			t.Fatalf("%+v", n.last)
		}
		pathRun(true).checkAsked(t, n.ops)
	}
	if homes < 300 {
		t.Errorf("only %d addresses were validated", homes)
	}
}

func fencePaths(ops []impl.PathOp) fencedRun[impl.PathOp] {
	mark := impl.PathOp{Kind: 1, N: 2, Addr: 3, Data: []byte("mark")}
	return fenceRun(ops, mark, func(op *impl.PathOp) []*[]byte { return []*[]byte{&op.Data} })
}

func pathRuns() [][]impl.PathOp {
	busy := append(pathMiddle(), responds(dataB), responds(dataC), challenges(dataD), challenges(dataE), challenges(dataF), challenges(dataA), challenges(dataB), responds(dataD), responds(dataE), goes(2000), comes(8, 8), challenges("short"), responds("longer than eight"), impl.PathOp{Kind: 9, Data: []byte(dataA)}, impl.PathOp{Kind: 1, Addr: 5, N: 5, Data: []byte(dataA)}, goes(15))
	return [][]impl.PathOp{nil, {goes(1)}, {challenges(dataA), responds(dataA)}, pathMiddle(), busy}
}

func TestP1PathsMemory(t *testing.T) {
	bothEnds(func(server bool) {
		for _, run := range pathRuns() {
			arg := fencePaths(run)
			want, _ := impl.PathRun(server, arg.list)
			got, _ := impl.PathRun(server, arg.list)
			arg.check(t, "PathRun")
			clear(got[:cap(got)])
			arg.check(t, "PathRun")
			pathRun(server).check(t, arg.list, want)
			pathRun(server).checkAsked(t, arg.list)
		}
		long := fencePaths(make([]impl.PathOp, 301))
		pathRun(server).refuses(t, long.list, impl.ErrLong)
		long.check(t, "PathRun")
	})
}

// Data of several operations may lie in one memory.
func TestP1DataThatLiesTogether(t *testing.T) {
	row := amid([]byte("abcdefghijklmnop"), 0xee)
	ops := []impl.PathOp{{Kind: 3, Data: row.list[:8]}, {Kind: 3, Data: row.list[4:12]}, {Kind: 4, Data: row.list[1:9]}, {Kind: 4, Data: row.list[:8]}, {Kind: 4, Data: row.list[4:12]}}
	pathRun(true).check(t, ops, []impl.PathObs{{}, {}, {}, impl.PathObs(sure(0).answered()), impl.PathObs(sure(0))})
	row.check(t, "PathRun")
}

// What stands behind the end of a list is not of it.
func TestP1NoPathOperationBehindTheEndIsRun(t *testing.T) {
	ops := slices.Repeat([]impl.PathOp{comes(1, 1)}, 301)
	pathRun(true).checkAsked(t, ops[:300])
	pathRun(true).checkAsked(t, ops[:0])
	two := []impl.PathOp{comes(0, 1), comes(3, 1)}
	pathRun(true).check(t, two[:1], []impl.PathObs{impl.PathObs(unsure(0, 3))})
	pathRun(true).check(t, two[1:], []impl.PathObs{impl.PathObs(unsure(3, 3))})
	long := []byte("123456789")
	checkPathSteps(t, true, []pathStep{{impl.PathOp{Kind: 3, Data: long[:8]}, unsure(0, 0)}, {impl.PathOp{Kind: 4, Data: long[:7]}, unsure(0, 0).bad()}, {impl.PathOp{Kind: 3, Data: long[:7]}, unsure(0, 0).bad()}, {impl.PathOp{Kind: 4, Data: long[:8]}, sure(0).answered()}})
}

// Nothing is kept from call to call: a run answers the same behind any other.
func TestP1PathsKeepNothing(t *testing.T) {
	checkKeepsNothing(t, func() string {
		var lines []string
		bothEnds(func(server bool) {
			for _, ops := range pathRuns() {
				got, code := impl.PathRun(server, ops)
				lines = append(lines, fmt.Sprint(got, code))
			}
		})
		return fmt.Sprint(lines)
	})
}

func TestP1PathsTakeAnyIntegers(t *testing.T) {
	behind := []impl.PathOp{goes(5), responds(dataC), comes(0, 1), goes(2), responds(dataB), comes(255, 9)}
	for _, v := range oddInts() {
		mustEnd(t, fmt.Sprintf("PathRun with %d", v), func() {
			for _, w := range []int{v, 0, 1, 3, 255, 2000, -1, math.MinInt, math.MaxInt} {
				for kind := range 6 {
					for _, op := range []impl.PathOp{{Kind: kind, N: v, Addr: w, Data: []byte(dataC)}, {Kind: kind, N: w, Addr: v, Data: []byte(dataB)}, {Kind: v, N: w, Addr: w, Data: []byte(dataC)}, {Kind: kind, N: v, Addr: v}} {
						bothEnds(func(server bool) {
							pathRun(server).checkAsked(t, slices.Concat(pathMiddle(), []impl.PathOp{op}, behind))
							pathRun(server).checkAsked(t, slices.Concat([]impl.PathOp{op, op}, behind))
						})
					}
				}
			}
		})
	}
}
