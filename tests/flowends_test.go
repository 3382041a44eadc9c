package tests

import (
	"fmt"
	"maps"
	"math"
	"slices"
	"testing"

	"loop.example/g00012/impl"
)

// flowBook holds what was told to an end and what it told, by its operations and answers alone.
type flowBook struct {
	f                     impl.FlowSetup
	sent, granted         map[int]int
	came, told            map[int]int
	connGranted, connTold int
	opened, mayOpen, lets [2]int
	seen                  map[int]bool
}

func newFlowBook(f impl.FlowSetup) *flowBook {
	return &flowBook{
		f: f, sent: map[int]int{}, granted: map[int]int{}, came: map[int]int{}, told: map[int]int{}, seen: map[int]bool{},
		connGranted: f.PeerConn, connTold: f.ConnWindow, mayOpen: [2]int{f.PeerTwoWay, f.PeerOneWay}, lets: [2]int{f.TwoWay, f.OneWay},
	}
}

// mostSent is up to where a stream may be sent on.
func (b *flowBook) mostSent(id int) int { return max(b.f.PeerStream, b.granted[id]) }

func (b *flowBook) mostCome(id int) int { return max(b.f.StreamWindow, b.told[id]) }

func (b *flowBook) open(t *testing.T, op impl.FlowOp, obs impl.FlowObs) {
	t.Helper()
	kind := way(op.OneWay)
	b.opened[kind]++
	server, oneWay, _, code := impl.IdParts(obs.Id)
	if b.opened[kind] > b.mayOpen[kind] || b.seen[obs.Id] || code != impl.OK || server != b.f.Server || oneWay != op.OneWay {
		t.Fatalf("stream %d was opened, the %d-th of its kind of %d that were told", obs.Id, b.opened[kind], b.mayOpen[kind])
	}
	b.seen[obs.Id] = true
}

func (b *flowBook) send(t *testing.T, op impl.FlowOp, obs impl.FlowObs) {
	t.Helper()
	b.sent[op.Id] += obs.Count
	all := sumOf(b.sent)
	if obs.Count < 0 || obs.Count > op.N || b.sent[op.Id] > b.mostSent(op.Id) || all > b.connGranted {
		t.Fatalf("%d more bytes than %d on stream %d: %d of %d, in all %d of %d", obs.Count, op.N, op.Id, b.sent[op.Id], b.mostSent(op.Id), all, b.connGranted)
	}
	if obs.Count < op.N && b.sent[op.Id] < b.mostSent(op.Id) && all < b.connGranted {
		t.Fatalf("%d bytes of %d on stream %d, though more might be: %d of %d, in all %d of %d", obs.Count, op.N, op.Id, b.sent[op.Id], b.mostSent(op.Id), all, b.connGranted)
	}
}

func (b *flowBook) arrive(t *testing.T, op impl.FlowOp) {
	t.Helper()
	b.came[op.Id] = max(b.came[op.Id], op.N)
	if op.N > b.mostCome(op.Id) || sumOf(b.came) > b.connTold {
		t.Fatalf("%d bytes of stream %d came, of %d, in all %d of %d", op.N, op.Id, b.mostCome(op.Id), sumOf(b.came), b.connTold)
	}
	if op.Id%2 != way(b.f.Server) && op.Id/4 >= b.lets[op.Id%4/2] {
		t.Fatalf("stream %d was let in, of %d that were told", op.Id, b.lets[op.Id%4/2])
	}
}

// frame is something told: it must be more than what was told ahead.
func (b *flowBook) frame(t *testing.T, f impl.Frame) {
	t.Helper()
	rises := false
	switch f.Kind {
	case impl.FMaxStreamData:
		rises = f.B > b.mostCome(f.A)
		b.told[f.A] = f.B
	case impl.FMaxData:
		rises = f.A > b.connTold
		b.connTold = f.A
	case impl.FMaxStreams:
		rises = f.A == b.lets[f.B]+1
		b.lets[f.B] = f.A
	}
	if !rises || !impl.FrameOK(f) {
		t.Fatalf("told was %s: it is not more than ahead, or no frame", told(f))
	}
}

func (b *flowBook) enter(t *testing.T, op impl.FlowOp, obs impl.FlowObs) {
	t.Helper()
	if obs.Code != impl.OK {
		if obs.Id != 0 || obs.Count != 0 || len(obs.Frames) != 0 {
			t.Fatalf("beside a code: %s", toldFlowObs(obs))
		}
		return
	}
	switch op.Kind {
	case impl.FOpen:
		b.open(t, op, obs)
	case impl.FSend:
		b.send(t, op, obs)
	case impl.FArrive:
		b.arrive(t, op)
	case impl.FMaxDataIn:
		b.connGranted = max(b.connGranted, op.N)
	case impl.FMaxStreamIn:
		b.granted[op.Id] = max(b.granted[op.Id], op.N)
	case impl.FMaxStreamsIn:
		b.mayOpen[way(op.OneWay)] = max(b.mayOpen[way(op.OneWay)], op.N)
	}
	for _, f := range obs.Frames {
		b.frame(t, f)
	}
}

func TestP9ByTheAnswersAlone(t *testing.T) {
	more := numbers(82)
	for range 2500 {
		f := drawnSetup(&more)
		a := newAskedFlow(f)
		var ops []impl.FlowOp
		for range 20 + more.below(130) {
			op := drawnFlowOp(&more, a)
			a.run(op)
			ops = append(ops, op)
		}
		got, code := impl.FlowRun(f, ops)
		if code != impl.OK {
			t.Fatalf("code %d", code)
		}
		book := newFlowBook(f)
		for i, op := range ops {
			book.enter(t, op, got[i])
		}
	}
}

// flowEnd is one of two ends. It runs all its operations anew with each one more.
type flowEnd struct {
	t    *testing.T
	f    impl.FlowSetup
	ops  []impl.FlowOp
	ids  []int
	sent map[int]int
	left map[int]int
	book *flowBook
	// Told is what it told and the other end has not heard.
	told []impl.Frame
}

// pairOfEnds are a client and a server, each with what the other tells at first.
func pairOfEnds(t *testing.T, client, server impl.FlowSetup) [2]*flowEnd {
	setups := [2]impl.FlowSetup{client, server}
	var ends [2]*flowEnd
	for side := range ends {
		f, peer := setups[side], setups[1-side]
		f.Server = side == 1
		f.PeerConn, f.PeerStream, f.PeerTwoWay, f.PeerOneWay = peer.ConnWindow, peer.StreamWindow, peer.TwoWay, peer.OneWay
		ends[side] = &flowEnd{t: t, f: f, sent: map[int]int{}, left: map[int]int{}, book: newFlowBook(f)}
	}
	return ends
}

func (e *flowEnd) full() bool { return len(e.ops) >= 400 }

// run gives the answer to one more operation; a run that is full has no more of them.
func (e *flowEnd) run(op impl.FlowOp) impl.FlowObs {
	e.t.Helper()
	if e.full() {
		return impl.FlowObs{}
	}
	e.ops = append(e.ops, op)
	got, code := impl.FlowRun(e.f, e.ops)
	if code != impl.OK || len(got) != len(e.ops) {
		e.t.Fatalf("%d operations: code %d", len(e.ops), code)
	}
	last := got[len(got)-1]
	e.book.enter(e.t, op, last)
	e.told = append(e.told, last.Frames...)
	return last
}

func (e *flowEnd) must(op impl.FlowOp) impl.FlowObs {
	e.t.Helper()
	obs := e.run(op)
	if obs.Code != impl.OK {
		e.t.Fatalf("server %v: %+v: %s", e.f.Server, op, toldFlowObs(obs))
	}
	return obs
}

func (e *flowEnd) open(oneWay bool) bool {
	obs := e.run(opens(oneWay))
	if obs.Code != impl.OK || e.full() {
		return false
	}
	e.ids = append(e.ids, obs.Id)
	return true
}

// send gives up to where the bytes go that may be sent.
func (e *flowEnd) send(id, n int) (int, int) {
	count := e.must(sends(id, n)).Count
	e.sent[id] += count
	return e.sent[id], count
}

func (e *flowEnd) arrive(id, end int) {
	e.t.Helper()
	if e.full() {
		return
	}
	was := e.book.came[id]
	e.must(arrives(id, end))
	e.left[id] += max(0, end-was)
}

func (e *flowEnd) read(id, n int) {
	e.t.Helper()
	e.must(reads(id, n))
	e.left[id] -= n
}

// hear takes what the other end told.
func (e *flowEnd) hear(f impl.Frame) {
	e.t.Helper()
	switch f.Kind {
	case impl.FMaxData:
		e.must(dataIn(f.A))
	case impl.FMaxStreamData:
		e.must(streamIn(f.A, f.B))
	case impl.FMaxStreams:
		e.must(streamsIn(f.B == 1, f.A))
	}
}

func (e *flowEnd) hearAll(other *flowEnd) {
	e.t.Helper()
	for _, f := range other.told {
		e.hear(f)
	}
	other.told = nil
}

// streamsTo are those that can be sent on by one end: its own, and the two-way ones of the other.
func streamsTo(ends [2]*flowEnd, side int) []int {
	list := slices.Clone(ends[side].ids)
	for _, id := range ends[1-side].ids {
		if id%4 < 2 {
			list = append(list, id)
		}
	}
	return list
}

// flight is what is on its way to an end: bytes of a stream up to a place.
type flight struct{ to, id, end int }

// flowNet has two ends and a network between them that loses, doubles and mixes up.
type flowNet struct {
	more  *numbers
	pair  [2]*flowEnd
	air   []flight
	heard int
}

// open tells the other end by what comes: a stream without bytes as yet.
func (n *flowNet) open(side int) {
	if e := n.pair[side]; e.open(n.more.below(2) == 0) {
		n.air = append(n.air, flight{1 - side, e.ids[len(e.ids)-1], 0})
	}
}

func (n *flowNet) send(side int) {
	ids := streamsTo(n.pair, side)
	if len(ids) == 0 {
		return
	}
	id, e := ids[n.more.below(len(ids))], n.pair[side]
	if e.book.seen[id] || e.book.came[id] > 0 {
		end, _ := e.send(id, n.more.below(40))
		n.air = append(n.air, flight{1 - side, id, end})
	}
}

func (n *flowNet) come() {
	if len(n.air) == 0 {
		return
	}
	i := n.more.below(len(n.air))
	if b := n.air[i]; n.more.below(5) > 0 {
		n.pair[b.to].arrive(b.id, b.end)
	}
	if n.more.below(4) > 0 {
		n.air = slices.Delete(n.air, i, i+1)
	}
}

func (n *flowNet) read(side int) {
	e := n.pair[side]
	for _, id := range slices.Sorted(maps.Keys(e.left)) {
		if e.left[id] > 0 && n.more.below(2) == 0 && !e.full() {
			e.read(id, 1+n.more.below(e.left[id]))
		}
	}
}

func (n *flowNet) hear(side int) {
	other := n.pair[1-side]
	if len(other.told) == 0 {
		return
	}
	i := n.more.below(len(other.told))
	n.pair[side].hear(other.told[i])
	other.told = slices.Delete(other.told, i, i+1)
	n.heard++
}

func (n *flowNet) step() {
	side := n.more.below(2)
	switch n.more.below(6) {
	case 0:
		n.open(side)
	case 1, 2:
		n.send(side)
	case 3:
		n.come()
	case 4:
		n.read(side)
	default:
		n.hear(side)
	}
}

// What may be sent is never refused, though it comes late, in another order, or not at all, and what is told as well.
func TestP9BetweenTwoEnds(t *testing.T) {
	more := numbers(83)
	sent, heard := 0, 0
	for range 60 {
		n := flowNet{more: &more, pair: pairOfEnds(t, drawnSetup(&more), drawnSetup(&more))}
		for !n.pair[0].full() && !n.pair[1].full() {
			n.step()
		}
		sent += sumOf(n.pair[0].sent) + sumOf(n.pair[1].sent)
		heard += n.heard
	}
	if sent < 5000 || heard < 500 {
		t.Errorf("%d bytes were sent, %d frames heard", sent, heard)
	}
}

// Each round of sending all that may be, reading it and telling lets more be sent.
func TestP9EachRoundLetsMoreBeSent(t *testing.T) {
	for _, c := range []struct{ conn, stream, streams int }{
		{1, 1, 1}, {1, 1, 3}, {1, 16384, 2}, {16384, 1, 3}, {2, 1, 2}, {2, 3, 2}, {3, 2, 3}, {7, 7, 1}, {10, 3, 4}, {10, 7, 2}, {100, 33, 3}, {100, 34, 3}, {16384, 16384, 1}, {16384, 16384, 4}, {16384, 5000, 4}, {16383, 8191, 2},
	} {
		setup := impl.FlowSetup{ConnWindow: c.conn, StreamWindow: c.stream, TwoWay: c.streams, OneWay: c.streams}
		for side := range 2 {
			pair := pairOfEnds(t, setup, setup)
			from, to := pair[side], pair[1-side]
			for n := range c.streams {
				from.open(n%2 == 1)
			}
			for rounds := 0; len(from.ops)+4*c.streams < 400 && len(to.ops)+4*c.streams < 400; rounds++ {
				all := 0
				for _, id := range from.ids {
					end, count := from.send(id, math.MaxInt)
					all += count
					to.arrive(id, end)
				}
				if all == 0 {
					t.Fatalf("%+v: in round %d nothing more may be sent", c, rounds)
				}
				for _, id := range from.ids {
					if to.left[id] > 0 {
						to.read(id, to.left[id])
					}
				}
				from.hearAll(to)
			}
		}
	}
}

// Reading byte by byte lets more be sent as well, at the latest when all was read.
func TestP9ReadByteByByte(t *testing.T) {
	for conn := 1; conn < 12; conn++ {
		for stream := 1; stream < 12; stream++ {
			setup := impl.FlowSetup{ConnWindow: conn, StreamWindow: stream, TwoWay: 1, OneWay: 1}
			pair := pairOfEnds(t, setup, setup)
			from, to := pair[0], pair[1]
			from.open(false)
			for range 6 {
				end, count := from.send(0, math.MaxInt)
				if count == 0 {
					t.Fatalf("windows of %d and %d: behind %d bytes no more may be sent", conn, stream, end)
				}
				to.arrive(0, end)
				for to.left[0] > 0 {
					to.read(0, 1)
				}
				from.hearAll(to)
			}
		}
	}
}

// Each stream that is over lets one more be opened, and no more.
func TestP9EachEndLetsOneMoreBeOpened(t *testing.T) {
	for _, c := range []struct{ two, one int }{{1, 1}, {1, 0}, {0, 1}, {3, 2}, {64, 64}} {
		for side := range 2 {
			setup := impl.FlowSetup{ConnWindow: 9, StreamWindow: 5, TwoWay: c.two, OneWay: c.one}
			pair := pairOfEnds(t, setup, setup)
			from, to := pair[side], pair[1-side]
			openAll := func(want int) {
				t.Helper()
				count := len(from.ids)
				for _, oneWay := range []bool{false, true} {
					for from.open(oneWay) {
						to.arrive(from.ids[len(from.ids)-1], 0)
					}
				}
				if len(from.ids)-count != want {
					t.Fatalf("%+v: %d streams were opened, want %d", c, len(from.ids)-count, want)
				}
			}
			openAll(c.two + c.one)
			for round := 0; round < min(20, len(from.ids)); round++ {
				to.must(ends(from.ids[round]))
				if obs := to.run(ends(from.ids[round])); obs.Code != impl.ErrState {
					t.Fatalf("ended twice: %s", toldFlowObs(obs))
				}
				from.hearAll(to)
				openAll(1)
			}
		}
	}
}

func spoilFrames(list []impl.Frame) {
	whole := list[:cap(list)]
	for i := range whole {
		whole[i] = impl.Frame{Kind: -1, A: -2, B: -3, C: -4}
	}
}

func flowRuns() [][]impl.FlowOp {
	busy := []impl.FlowOp{
		opens(false), opens(true), sends(0, 9), sends(2, 9), arrives(9, 20), arrives(3, 20), reads(9, 10), reads(3, 20), reads(9, 10), ends(9), ends(1), ends(3), ends(3), arrives(9, 40), reads(9, 20), arrives(0, 5), reads(0, 5),
		dataIn(90), streamIn(0, 70), streamsIn(true, 9), opens(true), sends(0, 99), arrives(99, 0), reads(77, 1), sends(0, -1), {Kind: 99, Id: 1, N: 1}, ends(5),
	}
	return [][]impl.FlowOp{nil, {opens(false)}, {arrives(1, 20), reads(1, 20)}, busy, busy[:12], slices.Repeat(busy, 14)}
}

func TestP1FlowMemory(t *testing.T) {
	for _, run := range flowRuns() {
		arg := amid(run, impl.FlowOp{Kind: 1, Id: 2, N: 3, OneWay: true})
		want, _ := impl.FlowRun(middling(), arg.list)
		got, _ := impl.FlowRun(middling(), arg.list)
		arg.check(t, "FlowRun")
		for i := range got {
			spoilFrames(got[i].Frames)
			got[i].Frames = nil
			for j := i + 1; j < len(got); j++ {
				if !sameFlowObs(got[j], want[j]) {
					t.Fatalf("the frames of answer %d share memory with those of %d", j, i)
				}
			}
			arg.check(t, "FlowRun")
		}
		clear(got[:cap(got)])
		arg.check(t, "FlowRun")
		checkFlow(t, middling(), arg.list, want)
		checkFlowAsked(t, middling(), arg.list)
	}
	long := amid(make([]impl.FlowOp, 401), impl.FlowOp{Kind: 1})
	refusesFlow(t, middling(), long.list, impl.ErrLong)
	refusesFlow(t, impl.FlowSetup{}, long.list[:3], impl.ErrBad)
	long.check(t, "FlowRun")
}

// What stands behind the end of a list is not of it.
func TestP1NoFlowOperationBehindTheEndIsRun(t *testing.T) {
	ops := slices.Repeat([]impl.FlowOp{arrives(1, 1)}, 401)
	checkFlowAsked(t, middling(), ops[:400])
	checkFlowAsked(t, middling(), ops[:0])
	checkFlow(t, middling(), []impl.FlowOp{opens(false), opens(true)}[:1], []impl.FlowObs{opened(0)})
}

// Nothing is kept from call to call: a run answers the same behind any other.
func TestP1FlowKeepsNothing(t *testing.T) {
	ask := func() string {
		var lines []string
		for _, ops := range flowRuns() {
			got, code := impl.FlowRun(middling(), ops)
			lines = append(lines, fmt.Sprint(got, code))
		}
		return fmt.Sprint(lines)
	}
	first := ask()
	for range 5 {
		if again := ask(); again != first {
			t.Errorf("first %s, then %s", first, again)
		}
	}
}

func TestP1FlowTakesAnyIntegers(t *testing.T) {
	ahead := flowRuns()[3][:9]
	behind := []impl.FlowOp{sends(0, 99), sends(9, 99), arrives(9, 21), arrives(11, 1), reads(9, 1), opens(false), opens(true), ends(9), ends(5)}
	for _, v := range oddInts() {
		mustEnd(t, fmt.Sprintf("FlowRun with %d", v), func() {
			for _, w := range []int{v, 0, 1, 2, 3, -1, math.MinInt, math.MaxInt} {
				for kind := range 10 {
					for _, op := range []impl.FlowOp{{Kind: kind, Id: v, N: w}, {Kind: kind, Id: w, N: v, OneWay: true}, {Kind: v, Id: w, N: w}} {
						checkFlowAsked(t, middling(), slices.Concat(ahead, []impl.FlowOp{op}, behind))
						checkFlowAsked(t, middling(), slices.Concat([]impl.FlowOp{op, op}, behind))
					}
				}
			}
		})
	}
}
