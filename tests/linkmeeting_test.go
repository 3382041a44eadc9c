package tests

import (
	"fmt"
	"slices"
	"testing"

	"loop.example/g00012/impl"
)

func withVersions(client, server []int) impl.LinkSetup {
	s := plainLink()
	s.Versions, s.ServerVersions = client, server
	return s
}

func withNames(client, server []string) impl.LinkSetup {
	s := plainLink()
	s.Names, s.ServerNames = client, server
	return s
}

// met is where both ends are to be behind a calm: the client's version tells which one was chosen.
func wantMet(t *testing.T, s impl.LinkSetup, version int, name string) impl.LinkOut {
	t.Helper()
	got := takesLink(t, s, []impl.LinkOp{linkCalm(9)})
	if !bothOpen(got) || got.Client.Version != version || got.Server.Version != version || got.Client.Name != name || got.Server.Name != name {
		t.Errorf("client %+v, server %+v, want version %d and name %q", got.Client, got.Server, version, name)
	}
	return got
}

func TestP17VersionsInCommon(t *testing.T) {
	for _, retry := range []bool{false, true} {
		for _, c := range []struct {
			client, server []int
			want           int
		}{
			{[]int{1}, []int{1}, 1},
			{[]int{1, 2}, []int{2, 1}, 1},
			{[]int{4294967295}, []int{3, 4294967295}, 4294967295},
			{[]int{7, 1}, []int{2, 1}, 1},
			{[]int{7, 1, 2}, []int{2, 1}, 1},
			{[]int{7, 2, 1}, []int{1, 2}, 2},
			{[]int{9, 8, 7, 6, 5, 4, 3, 2}, []int{1, 2}, 2},
			{[]int{9, 8}, []int{1, 2, 3, 4, 5, 6, 7, 8}, 8},
		} {
			s := withVersions(c.client, c.server)
			s.Retry = retry
			wantMet(t, s, c.want, "b")
		}
	}
}

// The client has nothing more to say: the server has not heard of it, and never will.
func TestP17NoVersionInCommon(t *testing.T) {
	for _, retry := range []bool{false, true} {
		s := withVersions([]int{7, 5}, []int{2, 1})
		s.Retry = retry
		got := takesLink(t, s, []impl.LinkOp{linkDeliver(0), linkDeliver(1), linkCalm(9), linkTick(100000000)})
		want := []impl.LinkObs{{Sent: 1}, {State0: 2}, {State0: 2}, {State0: 2, Time: 100000000}}
		if !sameOut(impl.LinkOut{Obs: got.Obs}, impl.LinkOut{Obs: want}) {
			t.Errorf("%+v", got.Obs)
		}
		if got.Client.Code != impl.ErrVersion || got.Client.Version != 7 || got.Client.Gone != 1115 || got.Server.Version != 0 || got.Server.Came != 0 || got.Server.Gone != 0 {
			t.Errorf("%+v %+v", got.Client, got.Server)
		}
	}
}

// The window is as at first, and so is all of space 0 but for the number of the packet.
func TestP17AnotherVersionByHand(t *testing.T) {
	s := withVersions([]int{7, 1}, []int{2, 1})
	checkLinkSteps(t, s, []linkStep{
		{linkTick(999000), impl.LinkObs{Sent: 1, Time: 999000}},
		{linkDeliver(0), impl.LinkObs{Sent: 1, Time: 999000}},
		{linkDeliver(1), impl.LinkObs{Sent: 1, Time: 999000}},
		{linkDeliver(2), impl.LinkObs{Sent: 1, Time: 999000}},
	},
		impl.LinkEnd{Version: 1, Flight: 1115, Window: 12000, Gone: 3345, Valid: true},
		impl.LinkEnd{Window: 12000},
	)
	// A second list is not heard, whether it holds the version or not; behind the change the packets of the old one say nothing.
	got := takesLink(t, s, []impl.LinkOp{linkTick(999000), linkDeliver(0), linkDeliver(1), linkDeliver(2), linkDeliver(3), linkDeliver(4), linkDeliver(0), linkCalm(9)})
	if !bothOpen(got) || got.Client.Version != 1 || got.Obs[4].Sent != 0 || got.Obs[5].Sent != 2 || got.Obs[6].Sent != 0 {
		t.Errorf("%+v", got)
	}
}

// A list of versions is spoilt: the client goes by what it reads.
func TestP17SpoiltVersions(t *testing.T) {
	// The packet: one byte, four of version 0, an id of 8 and its number, another, and the versions from place 23 on.
	s := withVersions([]int{7, 3, 1}, []int{2, 1})
	// 2 becomes 3, which the client has: it changes to it, and the server has it not; a second change there is none.
	got := takesLink(t, s, []impl.LinkOp{linkDeliver(0), linkSpoil(1, 26, 1), linkDeliver(2), linkDeliver(3), linkCalm(5)})
	if got.Client.Version != 3 || got.Client.State != 0 || got.Obs[2].Sent != 1 || got.Obs[3].Sent != 0 {
		t.Errorf("%+v", got)
	}
	// 2 becomes 7: the list holds the version in use. The list itself is heard then.
	got = takesLink(t, s, []impl.LinkOp{linkDeliver(0), linkSpoil(1, 26, 5), linkDeliver(1), linkCalm(5)})
	if got.Obs[1].Sent != 0 || got.Obs[2].Sent != 1 || !bothOpen(got) || got.Client.Version != 1 {
		t.Errorf("%+v", got)
	}
	// 1 becomes 0: that is no list.
	got = takesLink(t, s, []impl.LinkOp{linkDeliver(0), linkSpoil(1, 30, 1)})
	if got.Client.Version != 7 || got.Obs[1].Sent != 0 {
		t.Errorf("%+v", got)
	}
	// None in common is left.
	got = takesLink(t, withVersions([]int{7, 1}, []int{1}), []impl.LinkOp{linkDeliver(0), linkSpoil(1, 26, 9)})
	if got.Client.State != 2 || got.Client.Code != impl.ErrVersion || got.Obs[1].Sent != 0 {
		t.Errorf("%+v", got)
	}
}

// The version in a client's packet is spoilt: the server answers what it can, and the client hears that its own is there.
func TestP17SpoiltVersionOfAPacket(t *testing.T) {
	got := takesLink(t, plainLink(), []impl.LinkOp{linkSpoil(0, 4, 4), linkDeliver(1), linkDeliver(0), linkCalm(3)})
	if got.Obs[0].Sent != 1 || got.Obs[1].Sent != 0 || got.Obs[2].Sent != 2 || !bothOpen(got) {
		t.Errorf("%+v", got)
	}
	// One that the server has too: the packet does not open, and nothing is settled by it.
	got = takesLink(t, withVersions([]int{1, 5}, []int{1, 5}), []impl.LinkOp{linkSpoil(0, 4, 4), linkDeliver(0), linkCalm(3)})
	if got.Obs[0].Sent != 0 || got.Obs[1].Sent != 2 || !bothOpen(got) || got.Server.Version != 1 {
		t.Errorf("%+v", got)
	}
	// A list that comes when the client has opened a packet says nothing, nor when it is open.
	for _, late := range [][]impl.LinkOp{{linkDeliver(0), linkDeliver(2), linkDeliver(1)}, {linkDeliver(0), linkDeliver(2), linkDeliver(3), linkDeliver(1)}} {
		s := withVersions([]int{7, 1}, []int{7})
		got = takesLink(t, s, append([]impl.LinkOp{linkSpoil(0, 4, 8)}, late...))
		if last := got.Obs[len(late)]; last.Sent != 0 || last.State0 == 2 {
			t.Errorf("%+v", got.Obs)
		}
	}
}

// A list without the version in use, which is spoilt on its way, comes too late: the client has opened a packet, or is open.
func TestP17VersionsThatComeTooLate(t *testing.T) {
	s := withVersions([]int{7, 1}, []int{7})
	// The version in the client's packet is spoilt, so that there is a list, of version 7 alone: number 1.
	for _, c := range []struct {
		ahead []int
		heard bool
	}{{nil, true}, {[]int{0}, true}, {[]int{0, 2}, false}, {[]int{0, 2, 3}, false}, {[]int{0, 2, 3, 4, 5, 6}, false}} {
		ops := append([]impl.LinkOp{linkSpoil(0, 4, 8)}, linkEach(linkDeliver, c.ahead...)...)
		got := takesLink(t, s, append(ops, linkSpoil(1, 26, 6)))
		if last := got.Obs[len(ops)]; (last.Sent == 1) != c.heard || (got.Client.Version == 1) != c.heard {
			t.Errorf("behind %v: %+v, version %d", c.ahead, last, got.Client.Version)
		}
		// One with no version in common would close it.
		got = takesLink(t, s, append(ops, linkSpoil(1, 26, 5)))
		if closed := got.Client.Code == impl.ErrVersion; closed != c.heard {
			t.Errorf("behind %v: %+v", c.ahead, got.Client)
		}
	}
}

func TestP17NamesInCommon(t *testing.T) {
	for _, c := range []struct {
		client, server []string
		want           string
	}{
		{[]string{"a"}, []string{"a"}, "a"},
		{[]string{"a", "b"}, []string{"b", "a"}, "b"},
		{[]string{"a", "b", "c", "d"}, []string{"z", "y", "d", "a"}, "d"},
		{[]string{"0123456789abcdef"}, []string{"0123456789abcde", "0123456789abcdef"}, "0123456789abcdef"},
	} {
		wantMet(t, withNames(c.client, c.server), 1, c.want)
	}
}

// The server closes in its first packet, of 4 bytes of a body; the client hears it, and says nothing.
func TestP17NoNameInCommon(t *testing.T) {
	s := withNames([]string{"a", "b"}, []string{"z", "y"})
	checkLinkSteps(t, s, []linkStep{
		{linkDeliver(0), impl.LinkObs{Sent: 1, State1: 2}},
		{linkDeliver(1), impl.LinkObs{State0: 2, State1: 2}},
		{linkDeliver(0), impl.LinkObs{State0: 2, State1: 2}},
		{linkCalm(3), impl.LinkObs{State0: 2, State1: 2}},
		{linkTick(100000000), impl.LinkObs{State0: 2, State1: 2, Time: 100000000}},
	},
		impl.LinkEnd{State: 2, Code: impl.ErrClosed, Version: 1, Flight: 1115, Window: 12000, Gone: 1115, Valid: true},
		impl.LinkEnd{State: 2, Code: impl.ErrVersion, Version: 1, Window: 12000, Came: 1115, Gone: 39},
	)
	s.Retry = true
	got := takesLink(t, s, []impl.LinkOp{linkCalm(9)})
	if got.Server.Code != impl.ErrVersion || got.Client.Code != impl.ErrClosed {
		t.Errorf("%+v", got)
	}
}

func retrySetup() impl.LinkSetup {
	s := plainLink()
	s.Retry = true
	return s
}

// The retry counts for nothing. The client's packet has a token of 24 bytes then; the first one stays in flight, and is lost by the
// timer of 1000 behind it, when the second one is acknowledged.
func TestP17ARetryByHand(t *testing.T) {
	checkLinkSteps(t, retrySetup(), []linkStep{
		{linkDeliver(0), impl.LinkObs{Sent: 1}},
		{linkDeliver(1), impl.LinkObs{Sent: 1}},
	},
		impl.LinkEnd{Version: 1, Flight: 2254, Window: 12000, Gone: 2254, Valid: true},
		impl.LinkEnd{Window: 12000},
	)
	checkLinkSteps(t, retrySetup(), []linkStep{
		{linkDeliver(0), impl.LinkObs{Sent: 1}},
		{linkDeliver(1), impl.LinkObs{Sent: 1}},
		{linkDeliver(2), impl.LinkObs{Sent: 2}},
		{linkDeliver(3), impl.LinkObs{Sent: 1}},
		{linkTick(999), impl.LinkObs{Time: 999}},
		{linkTick(1), impl.LinkObs{Time: 1000}},
	},
		// The window of 13139 is halved.
		impl.LinkEnd{Version: 1, Window: 6569, Gone: 3393, Valid: true},
		impl.LinkEnd{Version: 1, Flight: 166, Window: 12000, Came: 1139, Gone: 166},
	)
	got := wantMet(t, retrySetup(), 1, "b")
	if got.Server.Came != 1139+1139+51+23 || got.Server.Gone != 227 {
		t.Errorf("%+v", got.Server)
	}
}

// A second retry is not heard, though it is right, nor one of a spoilt packet, nor one that comes too late.
func TestP17RetriesThatAreNotHeard(t *testing.T) {
	s := retrySetup()
	got := takesLink(t, s, []impl.LinkOp{linkTick(999000), linkDeliver(0), linkDeliver(1), linkDeliver(2), linkDeliver(3), linkDeliver(4), linkCalm(9)})
	if got.Obs[3].Sent != 1 || got.Obs[4].Sent != 0 || got.Obs[5].Sent != 2 || !bothOpen(got) {
		t.Errorf("%+v", got)
	}
	// Each byte of the retry: its tag is of all of them and of the id.
	for at := range 55 {
		got := takesLink(t, s, []impl.LinkOp{linkDeliver(0), linkSpoil(1, at, 1<<(at%8)), linkDeliver(1)})
		if got.Obs[1].Sent != 0 || got.Obs[2].Sent != 1 {
			t.Errorf("byte %d spoilt: %+v", at, got.Obs)
		}
	}
	wantCodes(t, s, []impl.LinkOp{linkDeliver(0), linkSpoil(1, 55, 1)}, 0, 1)
	// The retry of a packet whose id was spoilt is for another id.
	got = takesLink(t, s, []impl.LinkOp{linkSpoil(0, 6, 1), linkDeliver(1), linkDeliver(0), linkDeliver(2), linkCalm(9)})
	if got.Obs[0].Sent != 1 || got.Obs[1].Sent != 0 || got.Obs[3].Sent != 1 || !bothOpen(got) {
		t.Errorf("%+v", got)
	}
	// Behind the first packet that opened, and when the client is open.
	for _, n := range []int{3, 4} {
		ops := append([]impl.LinkOp{linkTick(999000)}, linkEach(linkDeliver, 0, 1, 2, 4, 5, 6)[:n+1]...)
		got := takesLink(t, s, append(ops, linkDeliver(3), linkCalm(9)))
		if got.Obs[len(ops)].Sent != 0 || !bothOpen(got) {
			t.Errorf("%+v", got)
		}
	}
}

// The token is right for the address to which it was sent, and for its time.
func TestP17TokensOfAnotherAddressOrTime(t *testing.T) {
	for _, c := range []struct {
		ops  []impl.LinkOp
		open bool
	}{
		{[]impl.LinkOp{linkDeliver(0), linkDeliver(1)}, true},
		{[]impl.LinkOp{linkDeliver(0), linkRebind(), linkDeliver(1)}, false},
		{[]impl.LinkOp{linkDeliver(0), linkDeliver(1), linkRebind()}, true},
		{[]impl.LinkOp{linkRebind(), linkTick(999000), linkDeliver(1), linkDeliver(2), linkLose(), linkDeliver(3)}, true},
		{[]impl.LinkOp{linkRebind(), linkDeliver(0), linkDeliver(1), linkLose(), linkDeliver(2)}, false},
		{[]impl.LinkOp{linkDeliver(0), linkTick(60000000)}, true},
		{[]impl.LinkOp{linkDeliver(0), linkTick(60000001)}, false},
		{[]impl.LinkOp{linkDeliver(0), linkDeliver(1), linkTick(60000000), linkDeliver(2)}, true},
		{[]impl.LinkOp{linkDeliver(0), linkDeliver(1), linkTick(60000001), linkDeliver(2)}, false},
		// Two retries of unlike times, of which the client hears one alone: the later one, and the first one.
		{[]impl.LinkOp{linkDeliver(0), linkTick(60000001), linkDeliver(0), linkLose(), linkDeliver(7)}, true},
		{[]impl.LinkOp{linkDeliver(0), linkTick(60000001), linkDeliver(0), linkLose(), linkDeliver(1), linkDeliver(7)}, false},
	} {
		got := takesLink(t, retrySetup(), append(slices.Clone(c.ops), linkCalm(3)))
		if bothOpen(got) != c.open || !c.open && (got.Client.State != 0 || got.Server.State != 0) {
			t.Errorf("behind %v: %+v", c.ops, got)
		}
	}
}

// Spoilt to version 6 the first packet gets a retry, which is right for the id; the packet behind it is of version 7, so that it is
// answered by a list; and the client begins anew, with its token.
func TestP17ARetryBetweenVersions(t *testing.T) {
	s := withVersions([]int{7, 1}, []int{6, 1})
	s.Retry = true
	got := takesLink(t, s, []impl.LinkOp{linkSpoil(0, 4, 1), linkDeliver(1), linkDeliver(2), linkDeliver(3)})
	if got.Obs[0].Sent != 1 || got.Obs[1].Sent != 1 || got.Obs[2].Sent != 1 || got.Obs[3].Sent != 1 || got.Client.Version != 1 || got.Client.Flight != 1139 || got.Client.Gone != 1115+2*1139 {
		t.Errorf("%+v", got)
	}
}

// Each byte of each packet of a meeting is spoilt, ahead of its coming as it was sent: the meeting goes on, and nothing was heard.
func TestP17SpoiltAtEveryPlace(t *testing.T) {
	for _, s := range []impl.LinkSetup{plainLink(), retrySetup(), withVersions([]int{2, 1}, []int{1})} {
		_, l := checkLink(t, s, []impl.LinkOp{linkCalm(1)})
		for n, d := range l.air {
			ahead := linkEach(linkDeliver, rising(n, 0, 1)...)
			for at := range d.bytes {
				// Of a long packet most bytes are alike: all of its head and of its end, some between.
				if at > 60 && at < len(d.bytes)-20 && at%97 != 0 {
					continue
				}
				spoilt := spoiltAt(t, s, ahead, n, at)
				// The lists of versions alone say something when they are spoilt.
				if h, _, _ := impl.Peek(d.bytes, 8); h.Form != impl.FormVersions && (!bothOpen(spoilt) || spoilt.Client.Version != 1) {
					t.Errorf("byte %d of datagram %d: %+v", at, n, spoilt)
				}
			}
		}
	}
}

func spoiltAt(t *testing.T, s impl.LinkSetup, ahead []impl.LinkOp, n, at int) impl.LinkOut {
	t.Helper()
	ops := slices.Concat(ahead, []impl.LinkOp{linkSpoil(n, at, 1<<(at%8)), linkSpoil(n, at, 255), linkCalm(9)})
	got, _ := checkLink(t, s, ops)
	return got
}

// Packets come twice, in any order, and long behind their time.
func TestP17TwiceAndInAnyOrder(t *testing.T) {
	for _, s := range []impl.LinkSetup{plainLink(), retrySetup(), withVersions([]int{2, 1}, []int{1})} {
		for seed := range 40 {
			more := numbers(5000 + seed)
			var ops []impl.LinkOp
			l := newAskedLink(s)
			for len(ops) < 100 {
				op := linkDeliver(more.below(len(l.air)))
				if more.below(6) == 0 {
					op = linkTick(more.below(700000))
				}
				ops = append(ops, op)
				l.run(op)
			}
			got, _ := checkLink(t, s, append(ops, linkCalm(30)))
			if !bothOpen(got) || got.Client.Flight != 0 || got.Server.Flight != 0 {
				t.Errorf("seed %d: %+v %+v", seed, got.Client, got.Server)
			}
		}
	}
}

// Behind the server's hello the client has keys in all spaces, and nothing in flight: its timer at first goes off, 999000 behind its
// last packet, and asks in the highest space, where the server does not hear it yet.
func TestP17TheClientsTimerAtFirst(t *testing.T) {
	ops := []impl.LinkOp{linkDeliver(0), linkDeliver(1), linkLose(), linkTick(998999), linkTick(1)}
	got := takesLink(t, plainLink(), ops)
	if got.Obs[4].Time != 999000 || got.Client.Flight != 22 || got.Client.State != 0 {
		t.Errorf("%+v", got)
	}
	got, l := checkLink(t, plainLink(), append(ops, linkCalm(20)))
	if !bothOpen(got) || got.Client.Flight != 0 || l.met["the client's timer at first"] == 0 || l.met["too early"] == 0 {
		t.Errorf("%+v", got)
	}
	// One that hears nothing more asks again and again, by the timer of that space.
	got, l = checkLink(t, plainLink(), append(ops, linkClose(1, 0), linkLose(), linkTick(100000000)))
	if l.met["the client's timer at first"] != 1 || got.Client.State != 0 {
		t.Errorf("%+v", got)
	}
}

// Short packets that come to an end which isn't open are not heard: what they held is sent again.
func TestP16ShortPacketsTooEarly(t *testing.T) {
	ops := append(linkEach(linkDeliver, 0, 1, 2), linkOpen(0), linkLast(0, 0, "early"))
	got, l := checkLink(t, plainLink(), append(ops, linkDeliver(5), linkDeliver(4), linkDeliver(3), linkCalm(9), linkRead(1, 0, 99)))
	if l.met["too early"] == 0 || got.Obs[5].Sent != 0 || string(got.Obs[9].Data) != "early" || !got.Obs[9].End {
		t.Errorf("%+v", got.Obs)
	}
	// The other way: the server is open first for one packet's time.
	ops = append(linkEach(linkDeliver, 0, 1, 2, 4), linkOpen(1), linkLast(1, 1, "early"), linkDeliver(6), linkDeliver(7), linkCalm(9), linkRead(0, 1, 99))
	got, _ = checkLink(t, plainLink(), ops)
	if string(got.Obs[9].Data) != "early" {
		t.Errorf("%+v", got.Obs)
	}
}

// The lesser Idle of both counts once both are known, that of 0 never; it runs from the last packet that was heard, or from 0.
func TestP17Silence(t *testing.T) {
	for _, c := range []struct{ client, server, limit int }{
		{0, 0, 0}, {5000, 0, 5000}, {0, 5000, 5000}, {5000, 6000, 5000}, {6000, 5000, 5000}, {5000, 5000, 5000}, {1, 0, 1}, {0, maxTime, 0}, {maxTime, 7, 7},
	} {
		s := plainLink()
		s.Client.Idle, s.Server.Idle = c.client, c.server
		wait := c.limit
		if wait == 0 {
			wait = 100000000
		}
		got := takesLink(t, s, []impl.LinkOp{linkCalm(1), linkTick(wait - 1), linkTick(1), linkOpen(0), linkCalm(1)})
		closed := 0
		if c.limit > 0 {
			closed = 2
		}
		if a, b := got.Obs[1], got.Obs[2]; a.State0 != 1 || a.State1 != 1 || b.State0 != max(1, closed) || b.State1 != max(1, closed) {
			t.Errorf("%+v: %+v", c, got.Obs)
		}
		if closed == 2 && (got.Client.Code != impl.ErrIdle || got.Server.Code != impl.ErrIdle || got.Obs[2].Sent != 0) {
			t.Errorf("%+v: %+v %+v", c, got.Client, got.Server)
		}
		// At first each has its own alone, from 0 on.
		got = takesLink(t, s, []impl.LinkOp{linkTick(max(c.client, c.server, 1)%100000000 - 1), linkTick(1), linkTick(0)})
		for i, own := range []int{c.client, c.server} {
			end := []impl.LinkEnd{got.Client, got.Server}[i]
			if over := own > 0 && own <= got.Obs[1].Time; over != (end.State == 2) || over && end.Code != impl.ErrIdle {
				t.Errorf("%+v, end %d: %+v", c, i, end)
			}
		}
	}
}

// What was heard last counts: not what did not open, nor what came twice.
func TestP17WhatEndsASilence(t *testing.T) {
	s := plainLink()
	s.Server.Idle = 10000
	ahead := []impl.LinkOp{linkCalm(1), linkOpen(0), linkWrite(0, 0, "a"), linkWrite(0, 0, "b"), linkTick(9000)}
	for _, c := range []struct {
		op    impl.LinkOp
		hears bool
	}{{linkDeliver(8), true}, {linkDeliver(7), false}, {linkDeliver(0), false}, {linkSpoil(8, 12, 1), false}, {linkSpoil(8, 12, 0), true}, {linkDeliver(1), false}} {
		got := takesLink(t, s, slices.Concat(ahead, []impl.LinkOp{c.op, linkTick(999), linkTick(1), linkTick(8999), linkTick(1)}))
		states := []int{got.Obs[6].State1, got.Obs[7].State1, got.Obs[8].State1, got.Obs[9].State1}
		want := []int{1, 2, 2, 2}
		if c.hears {
			want = []int{1, 1, 1, 2}
		}
		if !slices.Equal(states, want) {
			t.Errorf("%s: the server's states %v, want %v", toldLinkOp(c.op), states, want)
		}
	}
}

// A calm leaves the silence aside; a tick behind it finds that it is over.
func TestP17SilenceInACalm(t *testing.T) {
	s := plainLink()
	s.Client.Idle = 5000
	got := takesLink(t, s, []impl.LinkOp{linkClose(1, 0), linkCalm(3), linkTick(0), linkCalm(9)})
	want := []impl.LinkObs{{State1: 2}, {Time: 7 * 999000, Sent: 3, State1: 2}, {Time: 7 * 999000, State0: 2, State1: 2}, {Time: 7 * 999000, State0: 2, State1: 2}}
	if !sameOut(impl.LinkOut{Obs: got.Obs}, impl.LinkOut{Obs: want}) || got.Client.Code != impl.ErrIdle {
		t.Errorf("%+v", got)
	}
	// A packet that is heard in the calm is heard at its time.
	got = takesLink(t, s, []impl.LinkOp{linkLose(), linkCalm(2), linkTick(4999), linkTick(1)})
	if got.Obs[1].Time != 999000 || got.Obs[2].State0 != 1 || got.Obs[2].State1 != 1 || got.Obs[3].State0 != 2 || got.Obs[3].State1 != 2 {
		t.Errorf("%+v", got.Obs)
	}
}

// Of equal timers the client's goes off first, and of one end's that of silence: then it sends nothing.
func TestP17EqualTimers(t *testing.T) {
	s := plainLink()
	s.Client.Idle = 999000
	got := takesLink(t, s, []impl.LinkOp{linkTick(999000)})
	if got.Client.Code != impl.ErrIdle || got.Obs[0].Sent != 0 {
		t.Errorf("%+v", got)
	}
	s.Client.Idle = 999001
	got = takesLink(t, s, []impl.LinkOp{linkTick(999000), linkTick(1)})
	if got.Client.Code != impl.ErrIdle || got.Obs[0].Sent != 1 || got.Obs[1].Sent != 0 {
		t.Errorf("%+v", got)
	}
	// Both ends have packets in flight since 0 in spaces 0 and 1, and no round trip: all timers are equal.
	_, l := checkLink(t, plainLink(), []impl.LinkOp{linkDeliver(0), linkTick(999000)})
	var order []string
	for _, d := range l.air[3:] {
		h, _, _ := impl.Peek(d.bytes, 8)
		order = append(order, fmt.Sprint(d.to, " ", h.Form))
	}
	if want := []string{"1 1", "0 1", "0 2"}; !slices.Equal(order, want) {
		t.Errorf("packets %v, want %v", order, want)
	}
	if got := impl.LinkRun(plainLink(), []impl.LinkOp{linkDeliver(0), linkTick(999000), linkDeliver(3), linkDeliver(4), linkDeliver(5)}); got.Obs[1].Sent != 3 || got.Obs[2].Sent == 0 {
		t.Errorf("%+v", got.Obs)
	}
}

// An end closes by hand: what it tells, in which space, and what the other one makes of it.
func TestP17ClosedByHand(t *testing.T) {
	for _, state := range linkStates() {
		for side := range 2 {
			if state.states[side] == 2 {
				continue
			}
			for _, n := range []int{0, 5, 63, 64, 16384, maxVar} {
				got, _ := checkLink(t, plainLink(), slices.Concat(state.ops, []impl.LinkOp{linkClose(side, n), linkDeliver(0), linkOpen(side), linkClose(side, n), linkUpdate(side), linkCalm(9)}))
				at := len(state.ops)
				codes := codesOf(got)[at:]
				if !slices.Equal(codes, []int{0, 0, 7, 7, 7, 0}) {
					t.Errorf("codes %v", codes)
				}
				ends := []impl.LinkEnd{got.Client, got.Server}
				if ends[side].State != 2 || ends[side].Code != 0 || ends[side].Name != "" {
					t.Errorf("side %d in %v: %+v", side, state.states, ends[side])
				}
				// A server that has heard nobody has nobody to tell it.
				silent := side == 1 && got.Server.Version == 0
				if got.Obs[at].Sent != 1-way(silent) {
					t.Errorf("side %d in %v: %+v", side, state.states, got.Obs[at])
				}
			}
		}
	}
}

// By hand: of an application that is open, with 12 bytes of head, 3 of a frame that is filled up to 4, and a tag; ahead of that with
// a frame of 4; and of a client that has no other keys in a full packet.
func TestP17SizesOfTheLastPacket(t *testing.T) {
	for _, c := range []struct {
		ops            []impl.LinkOp
		client, server int
	}{
		{[]impl.LinkOp{linkClose(0, 5)}, 2230, 0},
		{[]impl.LinkOp{linkClose(1, 5)}, 1115, 0},
		{[]impl.LinkOp{linkDeliver(0), linkClose(1, 5)}, 1115, 166 + 22},
		{[]impl.LinkOp{linkDeliver(0), linkClose(1, 64)}, 1115, 166 + 23},
		{[]impl.LinkOp{linkDeliver(0), linkClose(1, maxVar)}, 1115, 166 + 29},
		{[]impl.LinkOp{linkDeliver(0), linkDeliver(1), linkClose(0, 5)}, 2230 + 22, 166},
		{[]impl.LinkOp{linkDeliver(0), linkDeliver(1), linkClose(0, 64)}, 2230 + 23, 166},
		{append(linkEach(linkDeliver, 0, 1, 2), linkClose(0, 5)), 2281 + 22, 166},
		{append(linkEach(linkDeliver, 0, 1, 2), linkClose(0, 64)), 2281 + 22, 166},
		{append(linkEach(linkDeliver, 0, 1, 2), linkClose(0, 16384)), 2281 + 24, 166},
		{[]impl.LinkOp{linkCalm(1), linkClose(0, maxVar)}, 2304 + 28, 227},
		{[]impl.LinkOp{linkCalm(1), linkClose(1, maxVar)}, 2304, 227 + 28},
	} {
		got := takesLink(t, plainLink(), c.ops)
		if got.Client.Gone != c.client || got.Server.Gone != c.server {
			t.Errorf("behind %v: %d and %d bytes are gone, want %d and %d", c.ops, got.Client.Gone, got.Server.Gone, c.client, c.server)
		}
	}
}

// Who hears it is closed too, with another code; what has closed hears nothing.
func TestP17TheOtherIsClosedToo(t *testing.T) {
	for side := range 2 {
		got := takesLink(t, plainLink(), []impl.LinkOp{linkCalm(1), linkOpen(side), linkWrite(side, side, "x"), linkClose(side, 4), linkCalm(9), linkDeliver(9), linkDeliver(8), linkTick(100000000)})
		ends := []impl.LinkEnd{got.Client, got.Server}
		if ends[side].Code != 0 || ends[1-side].Code != impl.ErrClosed || ends[1-side].State != 2 || got.Obs[5].Sent+got.Obs[6].Sent+got.Obs[7].Sent != 0 {
			t.Errorf("%+v", got)
		}
	}
	// Both at once.
	got := takesLink(t, plainLink(), []impl.LinkOp{linkCalm(1), linkClose(0, 4), linkClose(1, 4), linkCalm(9)})
	if got.Client.Code != 0 || got.Server.Code != 0 {
		t.Errorf("%+v", got)
	}
	// By its first packet, without any other; by a retry the server hears no word of it.
	for _, s := range []impl.LinkSetup{plainLink(), retrySetup()} {
		got = takesLink(t, s, []impl.LinkOp{linkClose(0, 9), linkDeliver(1), linkCalm(9)})
		if got.Client.Code != 0 || got.Server.State != 2*way(!s.Retry) || got.Server.Came != 1115*way(!s.Retry) {
			t.Errorf("%+v", got)
		}
	}
}
