package tests

import (
	"slices"
	"strings"
	"testing"

	"loop.example/g00012/impl"
)

// The client has moved: its piece of 23 bytes comes in 44. The server acknowledges it and challenges the new address in 32; the
// client acknowledges that and answers in 32, and the server that in 23.
func TestP18AMoveByHand(t *testing.T) {
	open := func(sent int) impl.LinkObs { return impl.LinkObs{Sent: sent, State0: 1, State1: 1} }
	steps := []linkStep{
		{linkCalm(1), open(7)}, {linkRebind(), open(0)}, {linkOpen(0), open(0)},
		{linkLast(0, 0, "from elsewhere, a piece"), open(1)},
		{linkDeliver(8), open(1)}, {linkDeliver(9), open(1)}, {linkDeliver(10), open(1)}, {linkDeliver(11), open(0)},
	}
	client := impl.LinkEnd{State: 1, Version: 1, Flight: 44, Window: 13166, Gone: 2348, Valid: true, Name: "b"}
	server := impl.LinkEnd{State: 1, Version: 1, Flight: 32, Window: 12188, Addr: 1, Came: 44, Gone: 32, Name: "b", Rtt: impl.Rtt{Latest: 1, Least: 1, Smooth: 1}}
	checkLinkSteps(t, plainLink(), steps[:5], client, server)
	client.Flight, client.Window, client.Gone, client.Rtt = 0, 13242, 2380, impl.Rtt{Latest: 1, Least: 1, Smooth: 1}
	server.Flight, server.Window, server.Came, server.Gone, server.Valid = 0, 12220, 76, 55, true
	checkLinkSteps(t, plainLink(), steps, client, server)
}

// smallMove is a packet of the client's from another address: 18 bytes, and a frame of 4 bytes or more.
func smallMove(code int) []impl.LinkOp {
	return []impl.LinkOp{linkOpen(1), linkWrite(1, 1, strings.Repeat("x", 1000)), linkCalm(1), linkRebind(), linkStop(0, 1, code)}
}

// 50 bytes go for head and tag, and 20 are to be left: so 70 must be let, of three times what came.
func TestP18JustEnoughForAPacket(t *testing.T) {
	for _, c := range []struct{ code, came, gone, sent int }{
		{0, 22, 0, 0}, {63, 22, 0, 0}, {64, 22, 0, 0}, {16383, 22, 0, 0},
		// 22 bytes of frames are let: an acknowledgement of 5, a challenge of 9, and just the reset of 8, whose final size of 1000 has two.
		{16384, 24, 18 + 5 + 9 + 8, 1},
		{1 << 30, 28, 18 + 5 + 9 + 12, 1},
	} {
		ops := smallMove(c.code)
		obs, got, l := behindCalm(t, plainLink(), append(ops, linkDeliver(10))...)
		if got.Server.Addr != 1 || got.Server.Valid || got.Server.Came != c.came || got.Server.Gone != c.gone || obs[len(ops)].Sent != c.sent {
			t.Errorf("code %d: %+v, %+v", c.code, obs[len(ops)], got.Server)
		}
		if l.met["no room on the path"] == 0 {
			t.Errorf("code %d: %v", c.code, l.met)
		}
	}
	// One byte too little: a reset of 5 bytes comes in 23, of which thrice are 69.
	for _, c := range []struct{ code, came, sent int }{{63, 22, 0}, {64, 23, 0}, {16384, 25, 1}} {
		obs, got, _ := behindCalm(t, plainLink(), linkOpen(0), linkWrite(0, 0, "x"), linkCalm(1), linkRebind(), linkReset(0, 0, c.code), linkDeliver(10))
		if got.Server.Came != c.came || obs[5].Sent != c.sent || got.Server.Addr != 1 {
			t.Errorf("code %d: %+v", c.code, got.Server)
		}
	}
}

// What does not fit waits, in its order; streams go on with what is left.
func TestP18LittleRoom(t *testing.T) {
	met := map[string]int{}
	for n := 1; n < 400; n += 7 {
		for _, code := range []int{1, 100, 20000, maxVar} {
			s := wideLink()
			ops := []impl.LinkOp{linkOpen(0), linkWrite(0, 0, "x"), linkCalm(1), linkWrite(1, 0, strings.Repeat("y", 40)), linkStop(1, 0, code), linkLose(), linkRebind(), linkWrite(0, 0, strings.Repeat("z", n)), linkDeliver(12), linkWrite(1, 0, strings.Repeat("y", 2000)), linkReset(1, 0, code)}
			_, before, l := behindCalm(t, s, ops...)
			if before.Server.Addr != 1 || before.Server.Valid || before.Server.Gone > 3*before.Server.Came {
				t.Fatalf("%+v", before.Server)
			}
			for k, v := range l.met {
				met[k] += v
			}
			_, got, _ := behindCalm(t, s, append(ops, linkCalm(60))...)
			if before.Server.Gone > 0 && (!got.Server.Valid || got.Server.Flight != 0) {
				t.Errorf("%d bytes: %+v", n, got.Server)
			}
		}
	}
	if met["no room on the path"] == 0 || met["little room on the path"] == 0 {
		t.Errorf("%v", met)
	}
}

// Ten frames of 10 bytes wait behind the challenge; where the second packet from the new address lets 82 bytes of frames, an
// acknowledgement of 5, the challenge of 9 and six of them go, and 8 bytes are left.
func TestP18WhatWaitsToBeTold(t *testing.T) {
	ops := []impl.LinkOp{linkOpen(0), linkWrite(0, 0, "x"), linkOpen(1), linkWrite(1, 1, "y"), linkCalm(1), linkRebind(), linkStop(0, 0, 1), linkDeliver(12)}
	for range 10 {
		ops = append(ops, linkStop(1, 0, maxVar))
	}
	obs, got, l := behindCalm(t, plainLink(), append(ops, linkStop(0, 0, 2), linkDeliver(13))...)
	if got.Server.Came != 44 || obs[len(ops)+1].Sent != 1 || l.met["no room for what is to be told"] == 0 {
		t.Errorf("%+v %+v", obs[7:], got.Server)
	}
	// The first stop made the server give up its part: that is told in 4 bytes, behind the challenge.
	if want := 18 + 5 + 9 + 4 + 6*10; got.Server.Gone != want {
		t.Errorf("%d bytes are gone, want %d", got.Server.Gone, want)
	}
	_, got, _ = behindCalm(t, plainLink(), append(ops, linkStop(0, 0, 2), linkDeliver(13), linkCalm(9))...)
	if !got.Server.Valid || got.Server.Flight != 0 {
		t.Errorf("%+v", got.Server)
	}
}

// Nine ranges have 23 bytes of an acknowledgement, where there is room for 22: the highest one alone is told, in 5.
func TestP18AnAcknowledgementLongerThanRoom(t *testing.T) {
	for _, count := range []int{7, 8, 9, 10, 20} {
		ops := append(everySecond(count), linkOpen(1), linkWrite(1, 1, "y"), linkDeliver(8+2*count+count), linkRebind(), linkStop(0, 1, 16384))
		ops = append(ops, linkDeliver(8+2*count+count+2))
		_, got, l := behindCalm(t, wideLink(), ops...)
		ranges := count + 2
		long := 5 + 2*(ranges-1)
		if met := l.met["an acknowledgement longer than room"]; got.Server.Addr != 1 || (met == 1) != (long > 22) {
			t.Errorf("%d ranges: %d, %+v", ranges, met, got.Server)
		}
	}
}

// Just as long as room: a reset of 7 bytes comes in 25, of which thrice, less 50, are 25. Eleven ranges fill them.
func TestP18AnAcknowledgementAsLongAsRoom(t *testing.T) {
	for _, count := range []int{8, 9, 10, 11, 12} {
		ops := append(everySecond(count), linkRebind(), linkReset(0, 0, 16384), linkDeliver(8+2*count+count))
		_, got, l := behindCalm(t, wideLink(), ops...)
		// The reset is the packet behind the last one that came: both are of one range.
		long := 5 + 2*count
		gone := 18 + long
		if long > 25 {
			gone = 18 + 5
		}
		if left := 25 - (gone - 18); left >= 9 {
			gone += 9
		}
		if met := l.met["an acknowledgement longer than room"]; got.Server.Came != 25 || got.Server.Gone != gone || (met == 1) != (long > 25) {
			t.Errorf("%d ranges: %d bytes came, %d are gone, want %d", count+1, got.Server.Came, got.Server.Gone, gone)
		}
	}
}

// The packet by which a server closes goes whether the path lets it or not, and counts.
func TestP18TheLastPacket(t *testing.T) {
	for n := 1; n < 60; n++ {
		ops := []impl.LinkOp{linkOpen(0), linkRebind(), linkWrite(0, 0, strings.Repeat("x", n)), linkDeliver(8), linkWrite(1, 0, strings.Repeat("y", 500))}
		_, before, _ := behindCalm(t, plainLink(), ops...)
		_, after, _ := behindCalm(t, plainLink(), append(ops, linkClose(1, maxVar))...)
		if before.Server.Gone > 3*before.Server.Came || after.Server.Gone != before.Server.Gone+28 || after.Server.Came != before.Server.Came || after.Server.Valid {
			t.Errorf("%+v, then %+v", before.Server, after.Server)
		}
	}
}

// There and back, and answers that come when another address is in use.
func TestP18ThereAndBack(t *testing.T) {
	// Moved ahead of the answer: it validates the address to which the challenge went, from wherever it comes.
	ops := []impl.LinkOp{linkOpen(0), linkRebind(), linkWrite(0, 0, strings.Repeat("a", 50)), linkDeliver(8), linkDeliver(9), linkRebind(), linkWrite(0, 0, strings.Repeat("b", 50)), linkDeliver(11)}
	_, got, _ := behindCalm(t, plainLink(), ops...)
	if got.Server.Addr != 2 || got.Server.Valid {
		t.Errorf("%+v", got.Server)
	}
	// The answer of before is older than what came from there: no way back, and no validation of this address.
	_, got, l := behindCalm(t, plainLink(), append(ops, linkDeliver(10))...)
	if got.Server.Addr != 2 || got.Server.Valid || l.met["an older packet"] != 1 || l.met["address answered"] != 1 {
		t.Errorf("%+v %v", got.Server, l.met)
	}
	_, got, _ = behindCalm(t, plainLink(), append(ops, linkCalm(9))...)
	if got.Server.Addr != 2 || !got.Server.Valid {
		t.Errorf("%+v", got.Server)
	}
	// An older packet counts nothing at its own address either.
	_, before, _ := behindCalm(t, plainLink(), linkOpen(0), linkWrite(0, 0, "a"), linkWrite(0, 0, "b"), linkDeliver(9))
	_, got, _ = behindCalm(t, plainLink(), linkOpen(0), linkWrite(0, 0, "a"), linkWrite(0, 0, "b"), linkDeliver(9), linkDeliver(8))
	if got.Server.Came != before.Server.Came {
		t.Errorf("%+v, then %+v", before.Server, got.Server)
	}
}

// Each space has its numbers: one of space 1 from address 0 is new there, though the client is elsewhere already.
func TestP18MovesWithinTheMeeting(t *testing.T) {
	// The client moves at each place of the meeting.
	for at := range 8 {
		for _, s := range []impl.LinkSetup{plainLink(), wideLink(), withVersions([]int{2, 1}, []int{1})} {
			ops := append(linkEach(linkDeliver, rising(at, 0, 1)...), linkRebind(), linkCalm(9), linkOpen(0), linkWrite(0, 0, "moved"), linkCalm(9), linkRead(1, 0, 9))
			got, _ := checkLink(t, s, ops)
			if !bothOpen(got) || got.Server.Addr != 1 || !got.Server.Valid || string(got.Obs[len(ops)-1].Data) != "moved" {
				t.Errorf("behind %d datagrams: %+v", at, got)
			}
		}
	}
	// A packet of space 1 validates the address in use, the one from which it comes if it is new.
	ops := []impl.LinkOp{linkDeliver(0), linkDeliver(1), linkDeliver(2), linkRebind(), linkOpen(0), linkWrite(0, 0, "x"), linkDeliver(4)}
	got, _ := checkLink(t, plainLink(), ops)
	if got.Server.Addr != 0 || !got.Server.Valid {
		t.Errorf("%+v", got.Server)
	}
	got, _ = checkLink(t, plainLink(), append(ops, linkDeliver(5)))
	if got.Server.Addr != 1 || got.Server.Valid {
		t.Errorf("%+v", got.Server)
	}
	// Probes in space 0 from the new address: they count there.
	got, _ = checkLink(t, plainLink(), []impl.LinkOp{linkDeliver(0), linkLose(), linkRebind(), linkTick(999000), linkDeliver(3)})
	if got.Server.Addr != 1 || got.Server.Valid || got.Server.Came != 1115 {
		t.Errorf("%+v", got.Server)
	}
}

// Five addresses, of which four challenges are remembered: the oldest is not answered any more.
func TestP18FiveChallenges(t *testing.T) {
	var ops []impl.LinkOp
	ops = append(ops, linkOpen(0))
	for i := range 5 {
		ops = append(ops, linkRebind(), linkWrite(0, 0, strings.Repeat("x", 60)), linkDeliver(8+2*i))
	}
	// The answers, in the order of the challenges.
	for _, first := range []int{0, 1, 4} {
		run := slices.Clone(ops)
		for i := first; i < 5; i++ {
			run = append(run, linkDeliver(9+2*i))
		}
		_, got, l := behindCalm(t, plainLink(), append(run, linkCalm(9))...)
		if !got.Server.Valid || got.Server.Addr != 5 || l.met["address changed"] != 5 {
			t.Errorf("%+v %v", got.Server, l.met)
		}
		if want := 4 - max(0, first-1); l.met["address answered"] < min(want, 1) {
			t.Errorf("%v", l.met)
		}
	}
}
