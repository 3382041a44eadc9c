package tests

import (
	"fmt"
	"math"
	"slices"
	"strings"
	"testing"

	"loop.example/g00012/impl"
)

const maxStreams = 1 << 60

func TestFlowLimits(t *testing.T) {
	for i, pair := range [][2]int{
		{impl.MaxFlowOps, 400}, {impl.MaxOpen, 64},
		{impl.FOpen, 1}, {impl.FSend, 2}, {impl.FArrive, 3}, {impl.FRead, 4}, {impl.FEnd, 5}, {impl.FMaxDataIn, 6}, {impl.FMaxStreamIn, 7}, {impl.FMaxStreamsIn, 8},
	} {
		if pair[0] != pair[1] {
			t.Errorf("constant %d is %d, want %d", i, pair[0], pair[1])
		}
	}
}

// idAsked adds up what the chapter says, part by part.
func idAsked(server, oneWay bool, n int) int {
	if !inRange(n, 0, maxStreams-1) {
		return -1
	}
	id := 4 * n
	if server {
		id++
	}
	if oneWay {
		id += 2
	}
	return id
}

func checkIdOf(t *testing.T, n int) {
	t.Helper()
	for kind, want := range []int{idAsked(false, false, n), idAsked(true, false, n), idAsked(false, true, n), idAsked(true, true, n)} {
		server, oneWay := kind%2 == 1, kind >= 2
		id := impl.IdOf(server, oneWay, n)
		if id != want {
			t.Errorf("IdOf(%v, %v, %d) = %d, want %d", server, oneWay, n, id, want)
		}
		if id >= 0 {
			checkIdParts(t, id, server, oneWay, n, impl.OK)
		}
	}
}

func checkIdParts(t *testing.T, id int, server, oneWay bool, n, code int) {
	t.Helper()
	gotServer, gotOneWay, gotN, gotCode := impl.IdParts(id)
	if gotServer != server || gotOneWay != oneWay || gotN != n || gotCode != code {
		t.Errorf("IdParts(%d) = %v %v %d %d, want %v %v %d %d", id, gotServer, gotOneWay, gotN, gotCode, server, oneWay, n, code)
	}
}

func TestIdsAtTheirEnds(t *testing.T) {
	for _, n := range []int{0, 1, 2, 63, 64, maxStreams - 2, maxStreams - 1, maxStreams, maxStreams + 1, -1, -2, math.MinInt, math.MaxInt} {
		checkIdOf(t, n)
	}
	for kind := range 4 {
		if id := impl.IdOf(kind%2 == 1, kind >= 2, maxStreams-1); id != maxVar-3+kind {
			t.Errorf("the last of kind %d is %d", kind, id)
		}
		if id := impl.IdOf(kind%2 == 1, kind >= 2, 0); id != kind {
			t.Errorf("the first of kind %d is %d", kind, id)
		}
	}
	checkIdParts(t, 0, false, false, 0, impl.OK)
	checkIdParts(t, 3, true, true, 0, impl.OK)
	checkIdParts(t, 4*maxStreams-4, false, false, maxStreams-1, impl.OK)
	checkIdParts(t, 4*maxStreams-1, true, true, maxStreams-1, impl.OK)
	for _, wrong := range []int{4 * maxStreams, 4*maxStreams + 1, 4*maxStreams + 2, 4*maxStreams + 3, -1, -2, -3, -4, math.MinInt, math.MinInt + 1, math.MaxInt, math.MaxInt - 1} {
		checkIdParts(t, wrong, false, false, 0, impl.ErrBad)
	}
}

func TestIdsOfManyPlaces(t *testing.T) {
	seen := map[int]bool{}
	for n := range 500 {
		checkIdOf(t, n)
		for kind := range 4 {
			seen[impl.IdOf(kind%2 == 1, kind >= 2, n)] = true
		}
	}
	// Each number is one stream's.
	for id := range 2000 {
		if !seen[id] {
			t.Errorf("no stream has the number %d", id)
		}
	}
	more := numbers(80)
	for range 5000 {
		checkIdOf(t, more.variable()/4)
	}
}

func TestP1IdsTakeAnyIntegers(t *testing.T) {
	for _, v := range oddInts() {
		mustEnd(t, fmt.Sprintf("ids of %d", v), func() {
			checkIdOf(t, v)
			if inRange(v, 0, maxVar) {
				checkIdParts(t, v, v%2 == 1, v/2%2 == 1, v/4, impl.OK)
			} else {
				checkIdParts(t, v, false, false, 0, impl.ErrBad)
			}
		})
	}
}

// askedFlow goes by the chapter, word by word: what was sent, came and was read is added up anew each time.
type askedFlow struct {
	f                              impl.FlowSetup
	open, over                     map[int]bool
	sent, granted                  map[int]int
	came, read, told               map[int]int
	connGranted, connTold          int
	ourOpened, ourMost, theirsMost [2]int // two-way, one-way
}

func newAskedFlow(f impl.FlowSetup) *askedFlow {
	return &askedFlow{
		f: f, open: map[int]bool{}, over: map[int]bool{}, sent: map[int]int{}, granted: map[int]int{}, came: map[int]int{}, read: map[int]int{}, told: map[int]int{},
		connGranted: f.PeerConn, connTold: f.ConnWindow, ourMost: [2]int{f.PeerTwoWay, f.PeerOneWay}, theirsMost: [2]int{f.TwoWay, f.OneWay},
	}
}

func sumOf(all map[int]int) int {
	sum := 0
	for _, v := range all {
		sum += v
	}
	return sum
}

func way(oneWay bool) int {
	if oneWay {
		return 1
	}
	return 0
}

func (a *askedFlow) start(id int) {
	if !a.open[id] {
		a.open[id], a.granted[id], a.told[id] = true, a.f.PeerStream, a.f.StreamWindow
	}
}

func (a *askedFlow) ours(id int) bool { return id%2 == way(a.f.Server) }

func (a *askedFlow) maySend(id int) bool { return a.open[id] && (a.ours(id) || id%4 < 2) }

func (a *askedFlow) mayGet(id int) bool { return a.open[id] && (!a.ours(id) || id%4 < 2) }

func (a *askedFlow) fresh(op impl.FlowOp) impl.FlowObs {
	kind := way(op.OneWay)
	if a.ourOpened[kind] == a.ourMost[kind] {
		return coded(impl.ErrLimit)
	}
	id := idAsked(a.f.Server, op.OneWay, a.ourOpened[kind])
	a.ourOpened[kind]++
	a.start(id)
	return impl.FlowObs{Id: id}
}

func (a *askedFlow) send(op impl.FlowOp) impl.FlowObs {
	switch {
	case op.N < 0:
		return coded(impl.ErrBad)
	case !a.maySend(op.Id):
		return coded(impl.ErrState)
	}
	count := min(op.N, a.granted[op.Id]-a.sent[op.Id], a.connGranted-sumOf(a.sent))
	a.sent[op.Id] += count
	return impl.FlowObs{Count: count}
}

func (a *askedFlow) arrive(op impl.FlowOp) int {
	if !inRange(op.Id, 0, maxVar) || !inRange(op.N, 0, maxVar) {
		return impl.ErrBad
	}
	if !a.ours(op.Id) {
		if op.Id/4 >= a.theirsMost[op.Id%4/2] {
			return impl.ErrLimit
		}
		for id := op.Id; id >= 0; id -= 4 {
			a.start(id)
		}
	} else if !a.mayGet(op.Id) {
		return impl.ErrState
	}
	was := a.came[op.Id]
	if op.N > a.told[op.Id] || sumOf(a.came)-was+max(was, op.N) > a.connTold {
		return impl.ErrFlow
	}
	a.came[op.Id] = max(was, op.N)
	return impl.OK
}

func (a *askedFlow) take(op impl.FlowOp) impl.FlowObs {
	switch {
	case !a.mayGet(op.Id):
		return coded(impl.ErrState)
	case op.N < 1, op.N > a.came[op.Id]-a.read[op.Id]:
		return coded(impl.ErrBad)
	}
	a.read[op.Id] += op.N
	var frames []impl.Frame
	if next := creditAsked(a.read[op.Id], a.f.StreamWindow, a.told[op.Id]); next != a.told[op.Id] {
		a.told[op.Id] = next
		frames = append(frames, maxStreamFrame(op.Id, next))
	}
	if next := creditAsked(sumOf(a.read), a.f.ConnWindow, a.connTold); next != a.connTold {
		a.connTold = next
		frames = append(frames, maxDataFrame(next))
	}
	return impl.FlowObs{Frames: frames}
}

func (a *askedFlow) end(op impl.FlowOp) impl.FlowObs {
	if !a.open[op.Id] || a.ours(op.Id) || a.over[op.Id] {
		return coded(impl.ErrState)
	}
	a.over[op.Id] = true
	kind := op.Id % 4 / 2
	a.theirsMost[kind]++
	return framed(maxStreamsFrame(kind == 1, a.theirsMost[kind]))
}

func (a *askedFlow) hear(op impl.FlowOp) int {
	most := maxVar
	if op.Kind == 8 {
		most = maxStreams
	}
	switch {
	case !inRange(op.N, 0, most):
		return impl.ErrBad
	case op.Kind == 7 && !a.maySend(op.Id):
		return impl.ErrState
	}
	switch op.Kind {
	case 6:
		a.connGranted = max(a.connGranted, op.N)
	case 7:
		a.granted[op.Id] = max(a.granted[op.Id], op.N)
	case 8:
		a.ourMost[way(op.OneWay)] = max(a.ourMost[way(op.OneWay)], op.N)
	}
	return impl.OK
}

func (a *askedFlow) run(op impl.FlowOp) impl.FlowObs {
	switch op.Kind {
	case 1:
		return a.fresh(op)
	case 2:
		return a.send(op)
	case 3:
		return coded(a.arrive(op))
	case 4:
		return a.take(op)
	case 5:
		return a.end(op)
	case 6, 7, 8:
		return coded(a.hear(op))
	}
	return coded(impl.ErrBad)
}

func coded(code int) impl.FlowObs { return impl.FlowObs{Code: code} }

func opened(id int) impl.FlowObs { return impl.FlowObs{Id: id} }

func counted(n int) impl.FlowObs { return impl.FlowObs{Count: n} }

func framed(frames ...impl.Frame) impl.FlowObs { return impl.FlowObs{Frames: frames} }

func maxStreamFrame(id, n int) impl.Frame { return impl.Frame{Kind: 17, A: id, B: n} }

func maxDataFrame(n int) impl.Frame { return impl.Frame{Kind: 16, A: n} }

func maxStreamsFrame(oneWay bool, n int) impl.Frame {
	return impl.Frame{Kind: 18, A: n, B: way(oneWay)}
}

func opens(oneWay bool) impl.FlowOp { return impl.FlowOp{Kind: 1, OneWay: oneWay} }

func sends(id, n int) impl.FlowOp { return impl.FlowOp{Kind: 2, Id: id, N: n} }

func arrives(id, n int) impl.FlowOp { return impl.FlowOp{Kind: 3, Id: id, N: n} }

func reads(id, n int) impl.FlowOp { return impl.FlowOp{Kind: 4, Id: id, N: n} }

func ends(id int) impl.FlowOp { return impl.FlowOp{Kind: 5, Id: id} }

func dataIn(n int) impl.FlowOp { return impl.FlowOp{Kind: 6, N: n} }

func streamIn(id, n int) impl.FlowOp { return impl.FlowOp{Kind: 7, Id: id, N: n} }

func streamsIn(oneWay bool, n int) impl.FlowOp { return impl.FlowOp{Kind: 8, OneWay: oneWay, N: n} }

func sameFlowObs(a, b impl.FlowObs) bool {
	return a.Code == b.Code && a.Id == b.Id && a.Count == b.Count && slices.EqualFunc(a.Frames, b.Frames, sameFrame)
}

func toldFlowObs(o impl.FlowObs) string {
	var frames []string
	for _, f := range o.Frames {
		frames = append(frames, told(f))
	}
	return fmt.Sprintf("{Code %d Id %d Count %d Frames [%s]}", o.Code, o.Id, o.Count, strings.Join(frames, "; "))
}

func toldFlowOps(ops []impl.FlowOp) string {
	names := []string{"", "opens", "sends", "arrives", "reads", "ends", "dataIn", "streamIn", "streamsIn"}
	var lines []string
	for _, op := range ops {
		name := fmt.Sprint("kind ", op.Kind)
		if inRange(op.Kind, 1, 8) {
			name = names[op.Kind]
		}
		lines = append(lines, fmt.Sprintf("%s Id %d N %d OneWay %v", name, op.Id, op.N, op.OneWay))
	}
	return strings.Join(lines, "\n  ")
}

func checkFlow(t *testing.T, f impl.FlowSetup, ops []impl.FlowOp, want []impl.FlowObs) {
	t.Helper()
	got, code := impl.FlowRun(f, ops)
	if code != impl.OK || len(got) != len(want) {
		t.Errorf("FlowRun(%+v, %d operations) = %d answers, code %d", f, len(ops), len(got), code)
		return
	}
	for i := range want {
		if !sameFlowObs(got[i], want[i]) {
			t.Errorf("FlowRun(%+v), answer %d = %s, want %s, of\n  %s", f, i, toldFlowObs(got[i]), toldFlowObs(want[i]), toldFlowOps(ops[:i+1]))
			return
		}
	}
}

func checkFlowAsked(t *testing.T, f impl.FlowSetup, ops []impl.FlowOp) {
	t.Helper()
	a := newAskedFlow(f)
	var want []impl.FlowObs
	for _, op := range ops {
		want = append(want, a.run(op))
	}
	checkFlow(t, f, ops, want)
}

func refusesFlow(t *testing.T, f impl.FlowSetup, ops []impl.FlowOp, code int) {
	t.Helper()
	if got, gotCode := impl.FlowRun(f, ops); gotCode != code || len(got) != 0 {
		t.Errorf("FlowRun(%+v, %d operations) = %d answers, code %d, want code %d alone", f, len(ops), len(got), gotCode, code)
	}
}

// flowStep is an operation and what is to be answered to it.
type flowStep struct {
	op   impl.FlowOp
	want impl.FlowObs
}

// mirrored is the same at the other end: what the client opened there the server opened here.
func (s flowStep) mirrored() flowStep {
	s.op.Id ^= 1
	if s.op.Kind == impl.FOpen && s.want.Code == impl.OK {
		s.want.Id ^= 1
	}
	s.want.Frames = slices.Clone(s.want.Frames)
	for i := range s.want.Frames {
		if s.want.Frames[i].Kind == impl.FMaxStreamData {
			s.want.Frames[i].A ^= 1
		}
	}
	return s
}

// checkFlowEnd runs each beginning of the steps too: no answer hangs on what comes behind it.
func checkFlowEnd(t *testing.T, f impl.FlowSetup, steps []flowStep) {
	t.Helper()
	var ops []impl.FlowOp
	var want []impl.FlowObs
	for _, s := range steps {
		ops = append(ops, s.op)
		want = append(want, s.want)
		checkFlow(t, f, ops, want)
	}
	checkFlowAsked(t, f, ops)
}

// checkFlowSteps takes steps of a client, and checks those of a server likewise.
func checkFlowSteps(t *testing.T, f impl.FlowSetup, steps []flowStep) {
	t.Helper()
	f.Server = false
	checkFlowEnd(t, f, steps)
	f.Server = true
	var others []flowStep
	for _, s := range steps {
		others = append(others, s.mirrored())
	}
	checkFlowEnd(t, f, others)
}

func middling() impl.FlowSetup {
	return impl.FlowSetup{ConnWindow: 50, StreamWindow: 20, TwoWay: 3, OneWay: 2, PeerConn: 50, PeerStream: 20, PeerTwoWay: 3, PeerOneWay: 2}
}

func TestP9OpeningAsManyAsWereTold(t *testing.T) {
	limit := coded(impl.ErrLimit)
	checkFlowSteps(t, middling(), []flowStep{
		{opens(false), opened(0)}, {opens(true), opened(2)}, {opens(true), opened(6)}, {opens(true), limit}, {opens(false), opened(4)}, {opens(false), opened(8)}, {opens(false), limit}, {opens(false), limit},
		// Below what stands, and at it.
		{streamsIn(false, 2), coded(0)}, {opens(false), limit}, {streamsIn(false, 3), coded(0)}, {opens(false), limit}, {streamsIn(false, 0), coded(0)}, {opens(false), limit},
		{streamsIn(false, 4), coded(0)}, {opens(true), limit}, {opens(false), opened(12)}, {opens(false), limit},
		{streamsIn(true, 4), coded(0)}, {streamsIn(true, 3), coded(0)}, {opens(false), limit}, {opens(true), opened(10)}, {opens(true), opened(14)}, {opens(true), limit},
		// What the other side opens doesn't count.
		{arrives(9, 0), coded(0)}, {arrives(7, 0), coded(0)}, {opens(false), limit}, {ends(1), framed(maxStreamsFrame(false, 4))}, {opens(false), limit}, {opens(true), limit},
		{streamsIn(false, maxStreams), coded(0)}, {opens(false), opened(16)}, {streamsIn(false, 1), coded(0)}, {opens(false), opened(20)}, {opens(true), limit},
	})
}

func TestP9OpeningFromNone(t *testing.T) {
	none := impl.FlowSetup{ConnWindow: 1, StreamWindow: 1}
	limit := coded(impl.ErrLimit)
	checkFlowSteps(t, none, []flowStep{
		{opens(false), limit}, {opens(true), limit}, {sends(0, 1), coded(impl.ErrState)}, {arrives(1, 0), limit}, {arrives(3, 0), limit}, {ends(1), coded(impl.ErrState)},
		{streamsIn(true, 1), coded(0)}, {opens(false), limit}, {opens(true), opened(2)}, {opens(true), limit}, {streamsIn(false, 1), coded(0)}, {opens(false), opened(0)}, {opens(false), limit},
		{sends(0, 1), counted(0)}, {sends(2, 1), counted(0)}, {arrives(0, 1), coded(0)}, {arrives(0, 2), coded(impl.ErrFlow)},
	})
	many := middling()
	many.PeerTwoWay, many.PeerOneWay = maxStreams, maxStreams
	var steps []flowStep
	for n := range 100 {
		steps = append(steps, flowStep{opens(false), opened(4 * n)}, flowStep{opens(true), opened(4*n + 2)})
	}
	checkFlowSteps(t, many, steps)
}

func TestP9Sending(t *testing.T) {
	// Of the stream: 20, of the connection: 50.
	checkFlowSteps(t, middling(), []flowStep{
		{sends(0, 5), coded(impl.ErrState)}, {opens(false), opened(0)}, {sends(0, 0), counted(0)}, {sends(0, 5), counted(5)}, {sends(0, 0), counted(0)}, {sends(0, 15), counted(15)}, {sends(0, 1), counted(0)}, {sends(0, 0), counted(0)},
		{opens(true), opened(2)}, {sends(2, 21), counted(20)}, {sends(2, 1), counted(0)}, {sends(0, math.MaxInt), counted(0)},
		{opens(false), opened(4)}, {sends(4, 11), counted(10)}, {sends(4, 1), counted(0)}, {opens(false), opened(8)}, {sends(8, 1), counted(0)},
		// The stream's grows, the connection's does not, and the other way round.
		{streamIn(0, 40), coded(0)}, {sends(0, 20), counted(0)}, {dataIn(55), coded(0)}, {sends(2, 1), counted(0)}, {sends(0, 3), counted(3)}, {sends(8, 9), counted(2)}, {sends(0, 1), counted(0)},
		{dataIn(1000), coded(0)}, {sends(0, 100), counted(17)}, {sends(0, 1), counted(0)}, {sends(4, 100), counted(10)}, {sends(8, 100), counted(18)}, {sends(2, 100), counted(0)},
	})
}

func TestP9SendingOnTheirs(t *testing.T) {
	state := coded(impl.ErrState)
	checkFlowSteps(t, middling(), []flowStep{
		{sends(1, 5), state}, {sends(3, 5), state}, {streamIn(1, 30), state}, {streamIn(3, 30), state}, {arrives(5, 0), coded(0)}, {arrives(3, 0), coded(0)},
		{sends(3, 5), state}, {streamIn(3, 30), state}, {sends(5, 5), counted(5)}, {sends(1, 7), counted(7)}, {sends(9, 7), state}, {sends(7, 1), state},
		{sends(1, 20), counted(13)}, {streamIn(1, 23), coded(0)}, {sends(1, 20), counted(3)}, {sends(5, 20), counted(15)}, {opens(false), opened(0)}, {sends(0, 20), counted(7)}, {sends(1, 1), counted(0)},
		{dataIn(60), coded(0)}, {sends(1, 1), counted(0)}, {sends(0, 20), counted(10)},
	})
	// The least and the greatest that the other side can tell.
	for _, c := range []struct{ conn, stream, first, second int }{
		{0, 0, 0, 0}, {0, maxVar, 0, 0}, {maxVar, 0, 0, 0}, {maxVar, maxVar, maxVar, 0}, {1, maxVar, 1, 0}, {maxVar, 1, 1, 1}, {maxVar, maxVar - 1, maxVar - 1, 1}, {maxVar - 1, maxVar, maxVar - 1, 0},
	} {
		f := middling()
		f.PeerConn, f.PeerStream = c.conn, c.stream
		checkFlowSteps(t, f, []flowStep{{opens(false), opened(0)}, {opens(true), opened(2)}, {sends(0, math.MaxInt), counted(c.first)}, {sends(2, math.MaxInt), counted(c.second)}, {sends(0, 1), counted(0)}})
	}
}

func TestP9TwoStreamsShareTheConnection(t *testing.T) {
	f := middling()
	f.PeerConn = 30
	for first := range 24 {
		for second := range 24 {
			a := min(first, 20)
			b := min(second, 20, 30-a)
			checkFlowSteps(t, f, []flowStep{
				{opens(false), opened(0)}, {opens(true), opened(2)}, {sends(0, first), counted(a)}, {sends(2, second), counted(b)}, {sends(0, 50), counted(min(20-a, 30-a-b))},
			})
		}
	}
}

func TestP9CreditThatComesIn(t *testing.T) {
	bad, state := coded(impl.ErrBad), coded(impl.ErrState)
	checkFlowSteps(t, middling(), []flowStep{
		{opens(false), opened(0)}, {opens(true), opened(2)},
		// Below and at what stands nothing changes.
		{streamIn(0, 0), coded(0)}, {streamIn(0, 19), coded(0)}, {streamIn(0, 20), coded(0)}, {dataIn(0), coded(0)}, {dataIn(49), coded(0)}, {dataIn(50), coded(0)}, {sends(0, 99), counted(20)},
		{streamIn(0, 21), coded(0)}, {streamIn(0, 5), coded(0)}, {sends(0, 99), counted(1)}, {streamIn(0, maxVar), coded(0)}, {sends(2, 99), counted(20)}, {sends(0, 99), counted(9)},
		{dataIn(51), coded(0)}, {dataIn(50), coded(0)}, {sends(0, 99), counted(1)}, {streamIn(2, maxVar), coded(0)}, {dataIn(maxVar), coded(0)}, {sends(2, 99), counted(99)}, {sends(0, math.MaxInt), counted(maxVar - 150)}, {sends(2, 1), counted(0)},
		{dataIn(maxVar + 1), bad}, {dataIn(-1), bad}, {streamIn(0, maxVar+1), bad}, {streamIn(0, -1), bad}, {streamIn(4, -1), bad}, {streamIn(4, maxVar+1), bad}, {streamIn(4, 0), state}, {streamIn(4, maxVar), state},
		{streamsIn(false, maxStreams+1), bad}, {streamsIn(true, maxStreams+1), bad}, {streamsIn(false, -1), bad}, {streamsIn(true, -1), bad}, {streamsIn(false, maxVar), bad},
		{opens(true), opened(6)}, {opens(true), coded(impl.ErrLimit)},
	})
}

func TestP9ArrivalsAndPlaces(t *testing.T) {
	limit := coded(impl.ErrLimit)
	checkFlowSteps(t, middling(), []flowStep{
		{arrives(13, 1), limit}, {arrives(11, 1), limit}, {arrives(17, 0), limit}, {arrives(maxVar, 0), limit}, {arrives(maxVar-2, 0), limit}, {reads(1, 1), coded(impl.ErrState)}, {arrives(9, 1), coded(0)}, {arrives(7, 1), coded(0)}, {arrives(1, 1), coded(0)}, {arrives(3, 1), coded(0)},
		{ends(9), framed(maxStreamsFrame(false, 4))}, {arrives(13, 1), coded(0)}, {arrives(17, 1), limit}, {arrives(11, 1), limit},
		{ends(3), framed(maxStreamsFrame(true, 3))}, {arrives(11, 1), coded(0)}, {arrives(15, 1), limit}, {arrives(17, 1), limit},
		{ends(7), framed(maxStreamsFrame(true, 4))}, {ends(11), framed(maxStreamsFrame(true, 5))}, {arrives(23, 0), limit}, {arrives(19, 0), coded(0)}, {ends(15), framed(maxStreamsFrame(true, 6))},
	})
	for _, most := range []int{0, 1, 63, 64} {
		f := middling()
		f.TwoWay, f.OneWay = most, 64-most
		checkFlowSteps(t, f, []flowStep{{arrives(4*most+1, 0), limit}, {arrives(4*(64-most)+3, 0), limit}, {sends(1, 0), coded(impl.ErrState)}})
		if most > 0 {
			checkFlowSteps(t, f, []flowStep{{arrives(4*most-3, 0), coded(0)}, {arrives(4*most+1, 0), limit}, {sends(1, 1), counted(1)}, {sends(4*most-3, 1), counted(1)}, {sends(4*most+1, 1), coded(impl.ErrState)}})
			checkFlowSteps(t, f, []flowStep{{arrives(4*(64-most)-1+4, 0), limit}, {ends(3), coded(impl.ErrState)}})
		}
		if most < 64 {
			checkFlowSteps(t, f, []flowStep{{arrives(4*(64-most)-1, 0), coded(0)}, {ends(3), framed(maxStreamsFrame(true, 65-most))}, {arrives(4*(64-most)+3, 0), coded(0)}, {arrives(4*(64-most)+7, 0), limit}})
		}
	}
}

func TestP9OpenedByALaterOne(t *testing.T) {
	state := coded(impl.ErrState)
	checkFlowSteps(t, middling(), []flowStep{
		{sends(1, 1), state}, {reads(1, 1), state}, {ends(1), state}, {arrives(9, 0), coded(0)},
		{sends(1, 1), counted(1)}, {sends(5, 1), counted(1)}, {sends(9, 1), counted(1)}, {streamIn(5, 99), coded(0)}, {sends(5, 99), counted(47)}, {reads(1, 1), coded(impl.ErrBad)}, {reads(5, 1), coded(impl.ErrBad)},
		{ends(5), framed(maxStreamsFrame(false, 4))}, {ends(1), framed(maxStreamsFrame(false, 5))}, {ends(13), state}, {ends(3), state}, {reads(3, 1), state}, {sends(3, 1), state},
		// A later one opens those ahead of it alone, of its kind alone.
		{arrives(17, 0), coded(0)}, {sends(13, 0), counted(0)}, {sends(21, 0), state}, {ends(13), framed(maxStreamsFrame(false, 6))}, {ends(5), state}, {arrives(7, 0), coded(0)}, {arrives(1, 0), coded(0)}, {ends(1), state}, {ends(3), framed(maxStreamsFrame(true, 3))},
		{arrives(3, 2), coded(0)}, {reads(3, 2), coded(0)},
	})
	// What was sent, came and was read ahead of the later one stays.
	checkFlowSteps(t, middling(), []flowStep{
		{arrives(1, 20), coded(0)}, {sends(1, 20), counted(20)}, {reads(1, 9), coded(0)}, {arrives(9, 5), coded(0)}, {sends(1, 1), counted(0)}, {arrives(1, 21), coded(impl.ErrFlow)}, {reads(1, 12), coded(impl.ErrBad)}, {reads(1, 11), framed(maxStreamFrame(1, 40))},
		{arrives(5, 0), coded(0)}, {sends(1, 1), counted(0)}, {arrives(1, 40), coded(0)}, {reads(1, 5), framed(maxDataFrame(75))},
	})
}

func TestP9OpenedByARefusedArrival(t *testing.T) {
	flow := coded(impl.ErrFlow)
	checkFlowSteps(t, middling(), []flowStep{
		{arrives(5, 21), flow}, {sends(5, 1), counted(1)}, {sends(1, 1), counted(1)}, {sends(9, 1), coded(impl.ErrState)}, {reads(5, 1), coded(impl.ErrBad)}, {reads(1, 1), coded(impl.ErrBad)},
		{ends(5), framed(maxStreamsFrame(false, 4))}, {ends(1), framed(maxStreamsFrame(false, 5))}, {ends(9), coded(impl.ErrState)},
		{arrives(7, maxVar), flow}, {reads(7, 1), coded(impl.ErrBad)}, {ends(3), framed(maxStreamsFrame(true, 3))},
		// Nothing of it counts in the sums.
		{arrives(1, 20), coded(0)}, {arrives(5, 20), coded(0)}, {arrives(9, 11), flow}, {ends(9), framed(maxStreamsFrame(false, 6))}, {arrives(9, 10), coded(0)}, {reads(9, 11), coded(impl.ErrBad)}, {reads(9, 10), framed(maxStreamFrame(9, 30))},
	})
	// What has another code opens nothing.
	checkFlowSteps(t, middling(), []flowStep{
		{arrives(5, -1), coded(impl.ErrBad)}, {arrives(5, maxVar+1), coded(impl.ErrBad)}, {arrives(13, 0), coded(impl.ErrLimit)}, {sends(5, 0), coded(impl.ErrState)}, {sends(1, 0), coded(impl.ErrState)}, {ends(1), coded(impl.ErrState)},
		{arrives(0, 0), coded(impl.ErrState)}, {arrives(4, 0), coded(impl.ErrState)}, {sends(0, 0), coded(impl.ErrState)}, {opens(false), opened(0)},
	})
}

func TestP9ArrivalsWithinTheCredit(t *testing.T) {
	flow := coded(impl.ErrFlow)
	// Just at the stream's, and one more; below the greatest nothing counts.
	checkFlowSteps(t, middling(), []flowStep{
		{arrives(1, 19), coded(0)}, {arrives(1, 20), coded(0)}, {arrives(1, 21), flow}, {arrives(1, maxVar), flow}, {arrives(1, 0), coded(0)}, {arrives(1, 7), coded(0)}, {reads(1, 21), coded(impl.ErrBad)},
		{opens(false), opened(0)}, {arrives(0, 20), coded(0)}, {arrives(0, 21), flow},
		// Just at the connection's, and one more.
		{arrives(3, 11), flow}, {arrives(3, 10), coded(0)}, {arrives(3, 11), flow}, {arrives(5, 1), flow}, {arrives(5, 0), coded(0)}, {arrives(1, 20), coded(0)}, {arrives(3, 9), coded(0)}, {arrives(3, 10), coded(0)},
		// What was read still counts.
		{reads(1, 20), framed(maxStreamFrame(1, 40))}, {arrives(1, 21), flow}, {reads(0, 4), coded(0)}, {arrives(3, 11), flow}, {reads(0, 1), framed(maxDataFrame(75))}, {arrives(3, 11), coded(0)}, {arrives(1, 40), coded(0)}, {arrives(5, 5), flow}, {arrives(5, 4), coded(0)}, {arrives(7, 1), flow},
	})
	// The connection's credit is below the stream's.
	f := middling()
	f.ConnWindow = 7
	checkFlowSteps(t, f, []flowStep{
		{arrives(1, 8), flow}, {arrives(1, 7), coded(0)}, {arrives(3, 1), flow}, {arrives(3, 0), coded(0)}, {reads(1, 3), coded(0)}, {reads(1, 1), framed(maxDataFrame(11))}, {arrives(3, 5), flow}, {arrives(3, 4), coded(0)}, {arrives(1, 8), flow},
	})
}

func TestP9Reads(t *testing.T) {
	bad := coded(impl.ErrBad)
	checkFlowSteps(t, middling(), []flowStep{
		{arrives(3, 6), coded(0)}, {reads(3, 7), bad}, {reads(3, 0), bad}, {reads(3, -1), bad}, {reads(3, math.MaxInt), bad}, {reads(3, math.MinInt), bad}, {reads(3, 1), coded(0)}, {reads(3, 6), bad}, {reads(3, 2), coded(0)}, {reads(3, 3), coded(0)}, {reads(3, 1), bad},
		// Below the greatest nothing more is there.
		{arrives(3, 5), coded(0)}, {reads(3, 1), bad}, {arrives(3, 8), coded(0)}, {reads(3, 3), bad}, {reads(3, 2), coded(0)}, {reads(3, 1), bad},
		// 10 of 20 are half a window.
		{arrives(3, 20), coded(0)}, {reads(3, 1), coded(0)}, {reads(3, 1), framed(maxStreamFrame(3, 30))}, {reads(3, 9), coded(0)}, {reads(3, 1), framed(maxStreamFrame(3, 40))}, {reads(3, 1), bad},
		// Behind it 25 in all are half the connection's.
		{opens(false), opened(0)}, {arrives(0, 5), coded(0)}, {reads(0, 4), coded(0)}, {reads(0, 1), framed(maxDataFrame(75))},
		{arrives(0, 10), coded(0)}, {arrives(3, 40), coded(0)}, {reads(3, 20), framed(maxStreamFrame(3, 60))}, {reads(0, 4), framed()}, {reads(0, 1), framed(maxStreamFrame(0, 30), maxDataFrame(100))},
	})
}

// A credit is told anew just when half its window, rounded up, was read.
func TestP9CreditsToldAnew(t *testing.T) {
	for _, c := range []struct{ stream, conn int }{{1, 1}, {2, 2}, {3, 3}, {4, 9}, {9, 4}, {10, 10}, {10, 20}, {20, 10}, {5, 11}, {16383, 16384}, {16384, 16384}, {16384, 16383}, {16384, 1}, {1, 16384}} {
		f := impl.FlowSetup{ConnWindow: c.conn, StreamWindow: c.stream, TwoWay: 1, PeerTwoWay: 1}
		all := min(c.stream, c.conn)
		stream, conn := (c.stream+1)/2, (c.conn+1)/2
		for _, n := range []int{1, stream - 1, stream, stream + 1, conn - 1, conn, conn + 1, all} {
			if !inRange(n, 1, all) {
				continue
			}
			var frames []impl.Frame
			if n >= stream {
				frames = append(frames, maxStreamFrame(1, c.stream+n))
			}
			if n >= conn {
				frames = append(frames, maxDataFrame(c.conn+n))
			}
			checkFlowSteps(t, f, []flowStep{{arrives(1, all), coded(0)}, {reads(1, n), framed(frames...)}})
		}
	}
}

func TestP9WindowsOfOne(t *testing.T) {
	f := impl.FlowSetup{ConnWindow: 1, StreamWindow: 1, TwoWay: 1, OneWay: 1, PeerConn: 1, PeerStream: 1, PeerTwoWay: 1, PeerOneWay: 1}
	flow := coded(impl.ErrFlow)
	checkFlowSteps(t, f, []flowStep{
		{arrives(1, 2), flow}, {arrives(1, 1), coded(0)}, {arrives(3, 1), flow}, {arrives(1, 2), flow}, {reads(1, 1), framed(maxStreamFrame(1, 2), maxDataFrame(2))}, {arrives(3, 1), coded(0)}, {arrives(1, 2), flow}, {reads(3, 1), framed(maxStreamFrame(3, 2), maxDataFrame(3))},
		{arrives(1, 2), coded(0)}, {arrives(3, 2), flow}, {opens(false), opened(0)}, {opens(true), opened(2)}, {sends(2, 2), counted(1)}, {sends(0, 2), counted(0)}, {dataIn(2), coded(0)}, {sends(2, 1), counted(0)}, {sends(0, 2), counted(1)},
	})
	f.ConnWindow = 16384
	f.StreamWindow = 16384
	checkFlowSteps(t, f, []flowStep{
		{arrives(1, 16385), flow}, {arrives(1, 16384), coded(0)}, {arrives(3, 1), flow}, {reads(1, 8191), coded(0)}, {reads(1, 1), framed(maxStreamFrame(1, 24576), maxDataFrame(24576))}, {arrives(3, 8193), flow}, {arrives(3, 8192), coded(0)}, {arrives(1, 16385), flow},
		{reads(1, 8192), framed(maxStreamFrame(1, 32768), maxDataFrame(32768))}, {arrives(1, 24577), flow}, {arrives(1, 24576), coded(0)}, {reads(3, 8192), framed(maxStreamFrame(3, 24576), maxDataFrame(40960))},
	})
}

func TestP9Ends(t *testing.T) {
	state := coded(impl.ErrState)
	checkFlowSteps(t, middling(), []flowStep{
		{ends(1), state}, {ends(3), state}, {ends(0), state}, {opens(false), opened(0)}, {opens(true), opened(2)}, {ends(0), state}, {ends(2), state}, {arrives(1, 0), coded(0)}, {ends(5), state}, {ends(3), state},
		{ends(1), framed(maxStreamsFrame(false, 4))}, {ends(1), state}, {ends(1), state}, {arrives(7, 3), coded(0)}, {ends(7), framed(maxStreamsFrame(true, 3))}, {ends(7), state}, {ends(3), framed(maxStreamsFrame(true, 4))}, {ends(3), state}, {ends(11), state},
		{arrives(7, 3), coded(0)}, {ends(7), state}, {arrives(1, 2), coded(0)}, {ends(1), state}, {ends(-1), state}, {ends(maxVar), state}, {ends(maxVar + 1), state}, {ends(math.MinInt), state}, {ends(math.MaxInt), state},
	})
}

// A stream that is over may be sent on; what comes late on it, and what came ahead, counts.
func TestP9BehindTheEnd(t *testing.T) {
	flow := coded(impl.ErrFlow)
	checkFlowSteps(t, middling(), []flowStep{
		{arrives(1, 10), coded(0)}, {sends(1, 5), counted(5)}, {reads(1, 6), coded(0)}, {ends(1), framed(maxStreamsFrame(false, 4))},
		{arrives(1, 4), coded(0)}, {arrives(1, 10), coded(0)}, {arrives(1, 21), flow}, {arrives(1, 20), coded(0)}, {sends(1, 99), counted(15)}, {sends(1, 1), counted(0)}, {streamIn(1, 22), coded(0)}, {sends(1, 99), counted(2)},
		{reads(1, 15), coded(impl.ErrBad)}, {reads(1, 3), coded(0)}, {reads(1, 1), framed(maxStreamFrame(1, 30))},
		// 20 of 50 have come on it.
		{arrives(5, 20), coded(0)}, {arrives(9, 11), flow}, {arrives(9, 10), coded(0)}, {arrives(1, 21), flow}, {ends(9), framed(maxStreamsFrame(false, 5))}, {ends(5), framed(maxStreamsFrame(false, 6))}, {arrives(13, 1), flow}, {arrives(13, 0), coded(0)},
		// What was read of it counts for the connection's too.
		{reads(5, 14), framed(maxStreamFrame(5, 34))}, {reads(1, 1), framed(maxDataFrame(75))}, {arrives(13, 20), coded(0)}, {arrives(17, 6), flow}, {arrives(17, 5), coded(0)}, {arrives(3, 1), flow},
		// What was sent on it as well.
		{opens(false), opened(0)}, {sends(0, 99), counted(20)}, {sends(13, 99), counted(8)}, {sends(17, 99), counted(0)},
	})
	one := middling()
	checkFlowSteps(t, one, []flowStep{
		{arrives(3, 20), coded(0)}, {ends(3), framed(maxStreamsFrame(true, 3))}, {reads(3, 20), framed(maxStreamFrame(3, 40))}, {sends(3, 1), coded(impl.ErrState)}, {streamIn(3, 1), coded(impl.ErrState)}, {arrives(3, 40), coded(0)}, {reads(3, 20), framed(maxStreamFrame(3, 60), maxDataFrame(90))}, {ends(3), coded(impl.ErrState)},
	})
}

func TestP9InTheWrongDirection(t *testing.T) {
	state := coded(impl.ErrState)
	checkFlowSteps(t, middling(), []flowStep{
		// Ours, one-way: nothing comes on it.
		{arrives(2, 0), state}, {opens(true), opened(2)}, {arrives(2, 0), state}, {arrives(2, 1), state}, {arrives(2, maxVar), state}, {reads(2, 1), state}, {reads(2, 0), state}, {sends(2, 1), counted(1)}, {streamIn(2, 30), coded(0)}, {ends(2), state},
		// Theirs, one-way: nothing is sent on it.
		{arrives(3, 4), coded(0)}, {sends(3, 1), state}, {sends(3, 0), state}, {streamIn(3, 30), state}, {reads(3, 4), coded(0)}, {ends(3), framed(maxStreamsFrame(true, 3))},
		// Ours, two-way: both.
		{arrives(0, 0), state}, {reads(0, 1), state}, {opens(false), opened(0)}, {arrives(0, 4), coded(0)}, {reads(0, 4), coded(0)}, {sends(0, 4), counted(4)}, {arrives(4, 0), state}, {arrives(4, 1), state}, {arrives(6, 1), state},
	})
}

// Of two faults the one that the chapter names first is told.
func TestFlowOrderOfCodes(t *testing.T) {
	bad, state, limit, flow := coded(impl.ErrBad), coded(impl.ErrState), coded(impl.ErrLimit), coded(impl.ErrFlow)
	checkFlowSteps(t, middling(), []flowStep{
		{sends(0, -1), bad}, {sends(3, -1), bad}, {sends(-1, -1), bad}, {sends(-1, 0), state}, {sends(-1, 1), state}, {sends(maxVar+1, 1), state}, {sends(0, math.MinInt), bad}, {sends(math.MinInt, 1), state}, {sends(math.MaxInt, 1), state},
		{arrives(-1, 0), bad}, {arrives(-1, -1), bad}, {arrives(maxVar+1, 0), bad}, {arrives(math.MinInt, 0), bad}, {arrives(math.MaxInt, 0), bad}, {arrives(1, -1), bad}, {arrives(1, maxVar+1), bad}, {arrives(1, math.MaxInt), bad}, {arrives(1, math.MinInt), bad}, {arrives(13, -1), bad}, {arrives(13, maxVar+1), bad}, {arrives(0, -1), bad}, {arrives(2, maxVar+1), bad},
		{arrives(13, maxVar), limit}, {arrives(13, 21), limit}, {arrives(11, 21), limit}, {arrives(0, maxVar), state}, {arrives(0, 21), state}, {arrives(2, 51), state}, {arrives(1, maxVar), flow}, {arrives(1, 51), flow},
		{reads(0, 0), state}, {reads(0, -1), state}, {reads(13, 0), state}, {reads(3, math.MinInt), state}, {reads(-1, 0), state}, {reads(maxVar+1, -1), state}, {reads(1, 0), bad}, {reads(1, 1), bad}, {reads(math.MinInt, 1), state}, {reads(math.MaxInt, 1), state},
		{streamIn(0, -1), bad}, {streamIn(3, -1), bad}, {streamIn(-1, -1), bad}, {streamIn(-1, 1), state}, {streamIn(maxVar+1, maxVar+1), bad}, {streamIn(maxVar+1, maxVar), state}, {streamIn(13, math.MaxInt), bad}, {streamIn(13, math.MinInt), bad}, {streamIn(math.MinInt, 0), state}, {streamIn(math.MaxInt, 0), state},
		{dataIn(math.MinInt), bad}, {dataIn(math.MaxInt), bad}, {streamsIn(false, math.MinInt), bad}, {streamsIn(true, math.MaxInt), bad},
	})
}

func TestFlowOtherKinds(t *testing.T) {
	for _, kind := range []int{0, -1, 9, 10, 16, 17, 18, 256, 257, math.MinInt, math.MaxInt} {
		wrong := impl.FlowOp{Kind: kind, Id: 1, N: 1, OneWay: true}
		bad := coded(impl.ErrBad)
		checkFlowEnd(t, middling(), []flowStep{
			{wrong, bad}, {arrives(1, 4), coded(0)}, {wrong, bad}, {reads(1, 4), coded(0)}, {wrong, bad}, {opens(true), opened(2)}, {wrong, bad}, {opens(true), opened(6)}, {sends(1, 20), counted(20)}, {wrong, bad}, {ends(1), framed(maxStreamsFrame(false, 4))}, {wrong, bad},
		})
	}
}

// What an operation doesn't ask for is not looked at.
func TestFlowFieldsThatAreNotAsked(t *testing.T) {
	for _, v := range []int{0, 1, 3, -1, maxVar, maxVar + 1, math.MinInt, math.MaxInt} {
		for _, oneWay := range []bool{false, true} {
			checkFlowEnd(t, middling(), []flowStep{
				{impl.FlowOp{Kind: 1, Id: v, N: v}, opened(0)}, {impl.FlowOp{Kind: 1, Id: v, N: v, OneWay: true}, opened(2)}, {impl.FlowOp{Kind: 2, Id: 2, N: 3, OneWay: oneWay}, counted(3)}, {impl.FlowOp{Kind: 3, Id: 1, N: 10, OneWay: oneWay}, coded(0)},
				{impl.FlowOp{Kind: 4, Id: 1, N: 10, OneWay: oneWay}, framed(maxStreamFrame(1, 30))}, {impl.FlowOp{Kind: 5, Id: 1, N: v, OneWay: oneWay}, framed(maxStreamsFrame(false, 4))}, {impl.FlowOp{Kind: 6, Id: v, N: 60, OneWay: oneWay}, coded(0)},
				{impl.FlowOp{Kind: 7, Id: 2, N: 60, OneWay: oneWay}, coded(0)}, {sends(2, 99), counted(57)}, {impl.FlowOp{Kind: 8, Id: v, N: 3, OneWay: true}, coded(0)}, {opens(true), opened(6)}, {opens(true), opened(10)}, {opens(true), coded(impl.ErrLimit)},
			})
		}
	}
}

func TestFlowSetups(t *testing.T) {
	fields := []struct {
		of         func(*impl.FlowSetup) *int
		from, most int
	}{
		{func(f *impl.FlowSetup) *int { return &f.ConnWindow }, 1, 16384}, {func(f *impl.FlowSetup) *int { return &f.StreamWindow }, 1, 16384},
		{func(f *impl.FlowSetup) *int { return &f.TwoWay }, 0, 64}, {func(f *impl.FlowSetup) *int { return &f.OneWay }, 0, 64},
		{func(f *impl.FlowSetup) *int { return &f.PeerConn }, 0, maxVar}, {func(f *impl.FlowSetup) *int { return &f.PeerStream }, 0, maxVar},
		{func(f *impl.FlowSetup) *int { return &f.PeerTwoWay }, 0, maxStreams}, {func(f *impl.FlowSetup) *int { return &f.PeerOneWay }, 0, maxStreams},
	}
	ops := []impl.FlowOp{opens(false), opens(true), sends(0, math.MaxInt), sends(2, math.MaxInt), arrives(1, 1), arrives(253, 0), arrives(257, 0), arrives(255, 16384), arrives(259, 1), arrives(1, 16384), reads(1, 1), reads(1, 8191), reads(3, 1), ends(1), ends(3), opens(false), opens(true)}
	for _, server := range []bool{false, true} {
		for _, field := range fields {
			for _, v := range append(oddInts(), 16383, 16384, 16385, 63, 64, 65, maxStreams-1, maxStreams+1, maxVar-1) {
				f := middling()
				f.Server = server
				*field.of(&f) = v
				if inRange(v, field.from, field.most) {
					checkFlowAsked(t, f, ops)
					checkFlowAsked(t, f, nil)
				} else {
					refusesFlow(t, f, ops, impl.ErrBad)
					refusesFlow(t, f, nil, impl.ErrBad)
					refusesFlow(t, f, make([]impl.FlowOp, 401), impl.ErrLong)
				}
			}
		}
	}
	refusesFlow(t, impl.FlowSetup{}, nil, impl.ErrBad)
	checkFlow(t, impl.FlowSetup{ConnWindow: 1, StreamWindow: 1}, nil, nil)
	checkFlow(t, impl.FlowSetup{ConnWindow: 16384, StreamWindow: 16384, TwoWay: 64, OneWay: 64, PeerConn: maxVar, PeerStream: maxVar, PeerTwoWay: maxStreams, PeerOneWay: maxStreams}, nil, nil)
}

func TestFlowHowMany(t *testing.T) {
	run := func(n int) []impl.FlowOp {
		list := make([]impl.FlowOp, n)
		for i := range list {
			list[i] = []impl.FlowOp{arrives(1, i/2+1), reads(1, 1)}[i%2]
		}
		return list
	}
	for _, n := range []int{0, 1, 399, 400} {
		checkFlowAsked(t, middling(), run(n))
	}
	for _, n := range []int{401, 402, 5000} {
		refusesFlow(t, middling(), run(n), impl.ErrLong)
		refusesFlow(t, impl.FlowSetup{}, run(n), impl.ErrLong)
	}
	checkFlow(t, middling(), nil, nil)
	checkFlow(t, middling(), []impl.FlowOp{}, nil)
}

// As many as ever can be open: each that is over lets in one more.
func TestFlowManyStreams(t *testing.T) {
	f := middling()
	f.TwoWay, f.OneWay = 64, 64
	for _, bits := range []int{1, 3} {
		steps := []flowStep{{arrives(4*63+bits, 0), coded(0)}}
		for n := range 199 {
			steps = append(steps, flowStep{ends(4*n + bits), framed(maxStreamsFrame(bits == 3, 65+n))}, flowStep{arrives(4*(64+n)+bits, 0), coded(0)})
		}
		steps = append(steps, flowStep{arrives(4*263+bits, 0), coded(impl.ErrLimit)})
		var ops []impl.FlowOp
		var want []impl.FlowObs
		for _, s := range steps {
			ops, want = append(ops, s.op), append(want, s.want)
		}
		checkFlow(t, f, ops, want)
	}
	var ops []impl.FlowOp
	for n := range 64 {
		ops = append(ops, arrives(4*(63-n)+1, 0))
	}
	for n := range 64 {
		ops = append(ops, ends(4*n+1))
	}
	checkFlowAsked(t, f, append(ops, arrives(4*127+1, 0), arrives(4*128+1, 0), sends(4*127+1, 3), sends(4*100+1, 3), ends(4*100+1)))
}

// drawnId is one of a few streams of all kinds, now and then another number.
func drawnId(more *numbers) int {
	if more.below(40) == 0 {
		return near(more, 0, 20, maxVar)
	}
	return more.below(1 + more.below(24))
}

// drawnFlowOp has things in the fields that its kind does not ask for, too.
func drawnFlowOp(more *numbers, a *askedFlow) impl.FlowOp {
	id := drawnId(more)
	op := impl.FlowOp{Kind: []int{1, 2, 2, 2, 3, 3, 3, 3, 4, 4, 4, 5, 6, 7, 8}[more.below(15)], Id: id, OneWay: more.below(2) == 0}
	switch op.Kind {
	case 2:
		op.N = near(more, 1, 4, a.granted[id]-a.sent[id], a.connGranted-sumOf(a.sent))
	case 3:
		op.N = near(more, 0, a.came[id], a.told[id], a.came[id]+a.connTold-sumOf(a.came))
	case 4:
		op.N = near(more, 1, a.came[id]-a.read[id], (a.f.StreamWindow+1)/2, (a.f.ConnWindow+1)/2)
	case 6:
		op.N = near(more, 0, a.connGranted, sumOf(a.sent)+4)
	case 7:
		op.N = near(more, 0, a.granted[id], a.sent[id]+4)
	case 8:
		op.N = near(more, 0, a.ourMost[way(op.OneWay)])
	default:
		op.N = near(more, 0, 9)
	}
	if more.below(40) == 0 {
		op.Kind = near(more, 0, 9)
	}
	return op
}

func drawnSetup(more *numbers) impl.FlowSetup {
	return impl.FlowSetup{
		Server: more.below(2) == 0, ConnWindow: 1 + more.below(1+more.below(60)), StreamWindow: 1 + more.below(1+more.below(40)), TwoWay: more.below(5), OneWay: more.below(5),
		PeerConn: more.below(1 + more.below(60)), PeerStream: more.below(1 + more.below(30)), PeerTwoWay: more.below(5), PeerOneWay: more.below(5),
	}
}

func TestFlowDrawn(t *testing.T) {
	more := numbers(81)
	for range 6000 {
		f := drawnSetup(&more)
		a := newAskedFlow(f)
		var ops []impl.FlowOp
		var want []impl.FlowObs
		for range 1 + more.below(90) {
			op := drawnFlowOp(&more, a)
			ops = append(ops, op)
			want = append(want, a.run(op))
		}
		checkFlow(t, f, ops, want)
	}
}
