package tests

import (
	"bytes"
	"slices"
	"testing"

	"loop.example/g00012/impl"
)

// linkLane is one direction of a stream: the side that writes on it, and its number.
type linkLane struct{ from, id int }

// linkBook goes by the answers alone: what was written and read, and what may have been given up.
type linkBook struct {
	written, read map[linkLane][]byte
	given         map[linkLane]bool
}

func newLinkBook() *linkBook {
	return &linkBook{written: map[linkLane][]byte{}, read: map[linkLane][]byte{}, given: map[linkLane]bool{}}
}

func (b *linkBook) enter(t *testing.T, op impl.LinkOp, obs impl.LinkObs) {
	t.Helper()
	to, from := linkLane{op.Side, op.Id}, linkLane{1 - op.Side, op.Id}
	switch {
	case op.Kind == impl.LWrite && obs.Code == impl.OK:
		b.written[to] = append(b.written[to], op.Data...)
	case op.Kind == impl.LReset && obs.Code == impl.OK:
		b.given[to] = true
	case op.Kind == impl.LStop && obs.Code == impl.OK:
		b.given[from] = true
	case op.Kind == impl.LRead:
		b.read[from] = append(b.read[from], obs.Data...)
		if obs.End && len(b.read[from]) != len(b.written[from]) {
			t.Fatalf("stream %d ends behind %d bytes of %d", op.Id, len(b.read[from]), len(b.written[from]))
		}
		if obs.Code == impl.ErrCancel && !b.given[from] {
			t.Fatalf("stream %d is given up, and nobody did it", op.Id)
		}
	}
	if !bytes.HasPrefix(b.written[from], b.read[from]) {
		t.Fatalf("of stream %d side %d has read what side %d has not written", op.Id, op.Side, 1-op.Side)
	}
}

func (b *linkBook) enterAll(t *testing.T, ops []impl.LinkOp, got impl.LinkOut) {
	t.Helper()
	for i, op := range ops {
		b.enter(t, op, got.Obs[i])
	}
}

// whole tells whether all that was written, and not given up, was read.
func (b *linkBook) whole() bool {
	for lane, data := range b.written {
		if !b.given[lane] && len(b.read[lane]) != len(data) {
			return false
		}
	}
	return true
}

// drained reads all streams on which something was written, with calms between, as long as operations are left.
func drained(b *linkBook, ops []impl.LinkOp) []impl.LinkOp {
	ops = append(slices.Clone(ops), linkCalm(60))
	var lanes []linkLane
	for lane := range b.written {
		lanes = append(lanes, lane)
	}
	slices.SortFunc(lanes, func(x, y linkLane) int { return x.id*2 + x.from - y.id*2 - y.from })
	for len(lanes) > 0 && len(ops)+len(lanes)+1 <= 120 {
		for _, lane := range lanes {
			ops = append(ops, linkRead(1-lane.from, lane.id, 1<<20))
		}
		ops = append(ops, linkCalm(60))
	}
	return ops
}

// What is read on a stream is a beginning of what was written, whatever the network does.
func TestP16ABeginningOfWhatWasWritten(t *testing.T) {
	reads := 0
	for seed := range 400 {
		more := numbers(20000 + seed)
		s := drawnLinkSetup(&more)
		ops := drawnLink(&more, s, linkWish{spoils: true, closes: true, moves: true, updates: true, resets: true}, 120)
		book := newLinkBook()
		book.enterAll(t, ops, impl.LinkRun(s, ops))
		for _, data := range book.read {
			reads += len(data)
		}
	}
	if reads < 20000 {
		t.Errorf("only %d bytes were read", reads)
	}
}

// When the network is good at last all is there, as soon as credit lets it.
func TestP16AllIsThereWhenTheNetworkIsGood(t *testing.T) {
	whole, bytesRead := 0, 0
	for seed := range 500 {
		more := numbers(30000 + seed)
		s := drawnLinkSetup(&more)
		// Windows that are not filled again and again, so that the reads that are left suffice.
		for _, p := range paramsIn(&s) {
			p.ConnWindow, p.StreamWindow, p.Idle = max(p.ConnWindow, 4000), max(p.StreamWindow, 4000), 0
		}
		ops := drawnLink(&more, s, linkWish{spoils: seed%2 == 0, resets: seed%3 == 0}, 70)
		ahead := newLinkBook()
		ahead.enterAll(t, ops, impl.LinkRun(s, ops))
		ops = drained(ahead, ops)
		got, _ := checkLink(t, s, ops)
		book := newLinkBook()
		book.enterAll(t, ops, got)
		if !bothOpen(got) {
			continue
		}
		if got.Client.Flight != 0 || got.Server.Flight != 0 {
			t.Fatalf("seed %d: in flight are %d and %d", seed, got.Client.Flight, got.Server.Flight)
		}
		if !book.whole() {
			t.Fatalf("seed %d: not all is there: %v", seed, ops)
		}
		whole++
		for _, data := range book.read {
			bytesRead += len(data)
		}
	}
	if whole < 200 || bytesRead < 100000 {
		t.Errorf("only %d runs, and %d bytes", whole, bytesRead)
	}
}

func common[T comparable](a, b []T) []T {
	return slices.DeleteFunc(slices.Clone(a), func(each T) bool { return !slices.Contains(b, each) })
}

// checkMeeting is what holds of every run without a spoilt datagram, a rebinding or a closing.
func checkMeeting(t *testing.T, s impl.LinkSetup, got impl.LinkOut) {
	t.Helper()
	versions, names := common(s.Versions, s.ServerVersions), common(s.ServerNames, s.Names)
	silent := s.Client.Idle > 0 || s.Server.Idle > 0
	for i, end := range []impl.LinkEnd{got.Client, got.Server} {
		if end.State != impl.LsClosed && end.Code != 0 {
			t.Fatalf("an end that isn't closed has the code %d", end.Code)
		}
		switch {
		case end.State != impl.LsClosed:
		case end.Code == impl.ErrIdle && silent:
		case end.Code == impl.ErrVersion && i == 0 && len(versions) == 0:
		case end.Code == impl.ErrVersion && i == 1 && len(names) == 0:
		case end.Code == impl.ErrClosed && i == 0 && got.Server.Code == impl.ErrVersion:
		default:
			t.Fatalf("end %d is closed with the code %d: %+v", i, end.Code, s)
		}
		if end.State == impl.LsOpen && (end.Version != versions[0] || end.Name != names[0]) {
			t.Fatalf("version %d and name %q, want %d and %q", end.Version, end.Name, versions[0], names[0])
		}
	}
}

func TestP17NobodyClosesWithoutNeed(t *testing.T) {
	states := map[int]int{}
	for seed := range 350 {
		more := numbers(40000 + seed)
		s := drawnLinkSetup(&more)
		ops := drawnLink(&more, s, linkWish{updates: true, resets: true}, 120)
		got := impl.LinkRun(s, ops)
		checkMeeting(t, s, got)
		states[10*got.Client.State+got.Server.State]++
		for _, n := range []int{1, 2, 5, len(ops) / 2} {
			checkMeeting(t, s, impl.LinkRun(s, ops[:n]))
		}
		// Nor with credit of one byte.
		s.Client.ConnWindow, s.Client.StreamWindow, s.Server.ConnWindow, s.Server.StreamWindow = 1+more.below(3), 1+more.below(3), 1+more.below(3), 1+more.below(3)
		checkMeeting(t, s, impl.LinkRun(s, ops))
	}
	if states[11] < 100 || states[22] < 50 || states[0] < 3 {
		t.Errorf("states %v", states)
	}
}

// Behind each operation a server has sent to an address that is not validated at most three times what came from it.
func TestP18ByTheAnswersAlone(t *testing.T) {
	unsure := 0
	for seed := range 80 {
		more := numbers(50000 + seed)
		s := drawnLinkSetup(&more)
		ops := drawnLink(&more, s, linkWish{spoils: seed%2 == 0, moves: true, updates: true, resets: true}, 60)
		for n := range len(ops) + 1 {
			server := impl.LinkRun(s, ops[:n]).Server
			if !server.Valid && server.State != impl.LsClosed && server.Gone > 3*server.Came {
				t.Fatalf("seed %d, behind %d operations: %+v", seed, n, server)
			}
			unsure += way(!server.Valid && server.Gone > 0)
		}
	}
	if unsure < 300 {
		t.Errorf("only %d times an address was not validated", unsure)
	}
}
