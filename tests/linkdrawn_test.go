package tests

import (
	"maps"
	"slices"
	"testing"

	"loop.example/g00012/impl"
)

// linkWish is what drawn runs may hold.
type linkWish struct {
	spoils, closes, moves, updates, resets bool
}

func drawnLinkParams(more *numbers) impl.Params {
	p := impl.Params{
		Size: 1200 + more.below(801), ConnWindow: 1 + more.below(16384), StreamWindow: 1 + more.below(16384), TwoWay: more.below(6), OneWay: more.below(6),
		AckDelay: more.below(1000), Ids: 2 + more.below(15), Datagram: more.below(1500), NoMove: more.below(2) == 0,
	}
	if more.below(3) == 0 {
		p.ConnWindow = 1 + more.below(300)
	}
	if more.below(3) == 0 {
		p.StreamWindow = 1 + more.below(300)
	}
	if more.below(3) == 0 {
		p.Idle = 1 + more.below(100000000)
	}
	return p
}

func drawnLinkSetup(more *numbers) impl.LinkSetup {
	s := plainLink()
	s.Shared, s.Seed = more.bytes(16), more.bytes(16)
	s.Client, s.Server = drawnLinkParams(more), drawnLinkParams(more)
	s.Cc = 1 + more.below(2)
	s.Retry = more.below(3) == 0
	switch more.below(8) {
	case 0:
		s.Versions, s.ServerVersions = []int{7, 1, 2}, []int{2, 1}
	case 1:
		s.Versions, s.ServerVersions = []int{7, 3}, []int{3}
	case 2:
		s.Versions, s.ServerVersions = []int{7}, []int{6}
	}
	switch more.below(10) {
	case 0:
		s.ServerNames = []string{"z"}
	case 1:
		s.ServerNames = []string{"z", "a", "b"}
	}
	return s
}

// drawnStream is one that is open at the end, in most cases.
func drawnStream(more *numbers, e *askedEnd) int {
	if e.flow == nil || len(e.flow.open) == 0 || more.below(5) == 0 {
		return more.below(12)
	}
	ids := slices.Sorted(maps.Keys(e.flow.open))
	return ids[more.below(len(ids))]
}

// drawnDatagram is one that has not come, in most cases.
func drawnDatagram(more *numbers, l *askedLink) int {
	for i, d := range l.air {
		if !d.came && more.below(2) == 0 {
			return i
		}
	}
	return more.below(len(l.air) + 1)
}

func drawnTick(more *numbers) int {
	return more.below([]int{2000, 2000, 2000000, 100000001}[more.below(4)])
}

func drawnLinkOp(more *numbers, l *askedLink, wish linkWish) impl.LinkOp {
	side := more.below(2)
	id := drawnStream(more, l.ends[side])
	switch k := more.below(32); {
	case k < 4:
		return impl.LinkOp{Kind: impl.LOpen, Side: side, Flag: more.below(4) == 0}
	case k < 9:
		return impl.LinkOp{Kind: impl.LWrite, Side: side, Id: id, Data: more.bytes(more.below([]int{60, 60, 6000}[more.below(3)])), Flag: more.below(6) == 0}
	case k < 14:
		return linkRead(side, id, 1+more.below([]int{100, 3000, 1 << 20}[more.below(3)]))
	case k < 20:
		return linkDeliver(drawnDatagram(more, l))
	case k < 22 && wish.spoils:
		return linkSpoil(more.below(len(l.air)), more.below(60), more.below(300))
	case k < 24:
		return linkTick(drawnTick(more))
	case k == 24 && wish.resets:
		return linkReset(side, id, more.below(100))
	case k == 25 && wish.resets:
		return linkStop(side, id, more.below(100))
	case k == 26 && wish.closes && more.below(4) == 0:
		return linkClose(side, more.variable())
	case k == 27 && wish.moves:
		return linkRebind()
	case k == 28 && wish.updates:
		return linkUpdate(side)
	case k == 29:
		return linkLose()
	case k == 30:
		return linkCalm(1 + more.below(60))
	}
	return linkRead(side, id, 100)
}

// drawnLink is a run of at most so many operations.
func drawnLink(more *numbers, s impl.LinkSetup, wish linkWish, most int) []impl.LinkOp {
	l := newAskedLink(s)
	var ops []impl.LinkOp
	add := func(op impl.LinkOp) {
		ops = append(ops, op)
		l.run(op)
	}
	if more.below(3) > 0 {
		add(linkCalm(1 + more.below(60)))
	}
	for count := 20 + more.below(most-20); len(ops) < count; {
		add(drawnLinkOp(more, l, wish))
	}
	return ops
}

func drawnWish(more *numbers) linkWish {
	return linkWish{spoils: more.below(3) == 0, closes: more.below(4) == 0, moves: more.below(2) == 0, updates: more.below(2) == 0, resets: more.below(2) == 0}
}

// linkMeets are all things that a run of the second program may tell it has met, and that drawn runs are to meet.
func linkMeets() []string {
	return []string{
		"address answered", "address changed", "an older packet", "came ahead", "credit", "does not open", "first packet that does not open", "keys followed",
		"little room on the path", "lost", "lost by a timer", "no room on the path", "ping", "retry", "retry not heard", "retry not right", "the client's timer at first",
		"to a closed end", "token not right", "told again", "too early", "version changed", "versions not heard", "window full",
	}
}

func TestP16AndP17Drawn(t *testing.T) {
	met := map[string]int{}
	for seed := range 1200 {
		more := numbers(seed)
		s := drawnLinkSetup(&more)
		_, l := checkLink(t, s, drawnLink(&more, s, drawnWish(&more), 120))
		for k, v := range l.met {
			met[k] += v
		}
	}
	for _, what := range linkMeets() {
		if met[what] == 0 {
			t.Errorf("%s was never met", what)
		}
	}
}
