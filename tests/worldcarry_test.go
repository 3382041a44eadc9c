package tests

import (
	"fmt"
	"slices"
	"strings"
	"testing"

	"loop.example/g00012/impl"
)

// Requests are asked ahead of the hello, amid the agreement, and when both ends are open: all are answered.
func TestP24RequestsAtEveryTime(t *testing.T) {
	asks := []impl.TalkOp{
		talkAsk("GET", "/", ""), talkEcho("hello there", "x-a", "1"), talkAsk("POST", "/count", "123456789012"), talkAsk("GET", "/part/some?more", "", "x-a", "1", "x-b", "2"),
		talkAsk("DELETE", "/gone", "why", "x-a", "1"), talkAsk("PUT", "/", "x"), talkAsk("GET", "/nowhere", ""), talkEcho("", "x-b", "2"), talkAsk("GET", "/long", "", "x-c", "3"),
	}
	want := []impl.Reply{done(0, 200, "home"), done(4, 200, "hello there"), done(8, 200, "12"), done(12, 200, "some"), done(16, 204, ""), done(20, 405, ""), done(24, 404, ""), done(28, 200, ""), done(32, 200, strings.Repeat("long ", 200))}
	for _, s := range []impl.WorldSetup{plainWorld(), wideWorld(), scriptLike(), worldWith(func(s *impl.WorldSetup) { s.Link.Retry, s.Link.Cc = true, 2 }), worldWith(func(s *impl.WorldSetup) { s.Talk = talkWith(0, 0, 1) })} {
		checkWorldReplies(t, s, append(says(asks...), calms()), want...)
		checkWorldReplies(t, s, slices.Concat(does(linkCalm(1)), says(asks...), []impl.WorldOp{calms()}), want...)
		var between []impl.WorldOp
		for i, op := range asks {
			between = append(between, onTalk(op), onLink(linkDeliver(i)))
		}
		checkWorldReplies(t, s, append(slices.Clone(between), calms()), want...)
		var one []impl.WorldOp
		for _, op := range asks {
			one = append(one, onTalk(op), calms())
		}
		checkWorldReplies(t, s, one, want...)
	}
	// Nothing is answered before something has come.
	checkWorldReplies(t, plainWorld(), says(asks[:2]...), open(0), open(4))
	checkWorldReplies(t, plainWorld(), does(linkCalm(3), linkCalm(3)))
	checkWorldReplies(t, plainWorld(), nil)
}

// scriptLike is the world of scripts, with routes of its own.
func scriptLike() impl.WorldSetup {
	s := scriptWorld()
	s.Talk.Routes = someRoutes()
	return s
}

// manyAsks are so many requests, each with a body of its own.
func manyAsks(count, size int) ([]impl.TalkOp, []impl.Reply) {
	var asks []impl.TalkOp
	var want []impl.Reply
	for i := range count {
		body := fmt.Sprint(i, strings.Repeat("z", size))
		asks = append(asks, talkEcho(body, "x-n", fmt.Sprint(i)))
		want = append(want, done(4*i, 200, body))
	}
	return asks, want
}

func TestP24AsManyRequestsAsThereMayBe(t *testing.T) {
	asks, want := manyAsks(16, 30)
	for _, s := range []impl.WorldSetup{plainWorld(), wideWorld(), scriptLike()} {
		out := checkWorldReplies(t, s, append(says(asks...), calms()), want...)
		for i, obs := range out.Obs[:16] {
			if obs.Code != impl.OK || obs.Id != 4*i || obs.Sent != 0 {
				t.Errorf("request %d: %+v", i, obs)
			}
		}
		worldLast(t, s, impl.ErrLimit, append(says(asks...), says(talkEcho(""))...)...)
		worldLast(t, s, impl.ErrLimit, slices.Concat(says(asks...), []impl.WorldOp{calms()}, says(talkEcho("")))...)
		worldLast(t, s, impl.ErrBad, slices.Concat(says(asks...), []impl.WorldOp{calms()}, says(talkAsk("get", "/", "")))...)
		// The limit comes ahead of a goaway.
		worldLast(t, s, impl.ErrLimit, slices.Concat(says(asks...), says(talkAway()), []impl.WorldOp{calms()}, says(talkEcho("")))...)
		worldLast(t, s, impl.ErrCancel, slices.Concat(says(asks[:15]...), says(talkAway()), []impl.WorldOp{calms()}, says(talkEcho("")))...)
	}
}

// More requests at once than the server lets in: the others wait, and go on when it tells of more.
func TestP24MoreRequestsThanStreams(t *testing.T) {
	asks, want := manyAsks(16, 100)
	for _, most := range []int{1, 2, 3, 15, 16, 64} {
		s := worldWith(func(s *impl.WorldSetup) { s.Link.Server.TwoWay = most })
		_, w := checkWorld(t, s, append(says(asks...), calms())...)
		if (w.met["a stream waits"] > 0) != (most < 16) {
			t.Errorf("%d streams: %v", most, w.met)
		}
		checkWorldReplies(t, s, append(says(asks...), calms()), want...)
		checkWorldReplies(t, s, slices.Concat(does(linkCalm(1)), says(asks...), []impl.WorldOp{calms()}), want...)
		// Of those that wait nothing has come when the first ones are answered. Datagram 5 brings as many requests as there may be.
		out, _ := checkWorld(t, s, append(says(asks...), delivers(0, 1, 2, 3, 4, 5, 6, 7, 8, 9)...)...)
		if n := doneOf(out); most < 8 && n > most {
			t.Errorf("%d streams, but %d are Done", most, n)
		}
	}
	// The client's own limit is of no use: the server opens no two-way stream.
	s := worldWith(func(s *impl.WorldSetup) { s.Link.Client.TwoWay, s.Link.Server.TwoWay = 0, 1 })
	checkWorldReplies(t, s, append(says(asks[:4]...), calms()), want[:4]...)
}

// One that waits for a stream sends nothing; what is behind it on one-way streams goes.
func TestP24AStreamThatWaits(t *testing.T) {
	s := worldWith(func(s *impl.WorldSetup) { s.Link.Server.TwoWay = 1 })
	begun := append(does(linkCalm(1)), says(talkEcho("first"))...)
	out, w := checkWorld(t, s, append(slices.Clone(begun), says(talkEcho("second"))...)...)
	// The second one has written no instruction: the path is in the table by the first.
	if out.Obs[1].Sent != 1 || out.Obs[2].Sent != 0 || w.met["a stream waits"] == 0 {
		t.Errorf("%+v", out.Obs)
	}
	out, _ = checkWorld(t, s, append(slices.Clone(begun), says(talkEcho("second", "x-new", "entry"))...)...)
	if out.Obs[2].Sent != 1 {
		t.Errorf("%+v", out.Obs)
	}
	out, _ = checkWorld(t, s, append(slices.Clone(begun), says(talkPrior(0, "u=1"))...)...)
	if out.Obs[2].Sent != 1 {
		t.Errorf("%+v", out.Obs)
	}
	ops := append(slices.Clone(begun), says(talkEcho("second"), talkEcho("third"), talkDrop(4))...)
	checkWorldReplies(t, s, append(slices.Clone(ops), calms()), done(0, 200, "first"), failed(4, impl.ErrCancel), done(8, 200, "third"))
	checkWorldReplies(t, s, append(slices.Clone(ops), onTalk(talkAway()), calms()), failed(0, impl.ErrCancel), failed(4, impl.ErrCancel), failed(8, impl.ErrCancel))
	// The first one has come by datagram 9: the goaway tells 4.
	got, _ := checkWorld(t, s, does(linkCalm(1))...)
	next := 1 + got.Obs[0].Sent
	ops = slices.Concat(begun, delivers(next), says(talkEcho("second"), talkAway()), []impl.WorldOp{calms()})
	checkWorldReplies(t, s, ops, done(0, 200, "first"), failed(4, impl.ErrCancel))
}

func TestP24Contents(t *testing.T) {
	for _, piece := range []int{1, 2, 100, 500, 4096} {
		for _, n := range []int{0, 1, piece - 1, piece, piece + 1, 2*piece - 1, 2 * piece, 2*piece + 1} {
			if n > 8192 {
				continue
			}
			body := string(rowOf(n, 7, 251))
			s := worldWith(func(s *impl.WorldSetup) { s.Talk.Piece = piece })
			ops := append(says(talkEcho(body), talkAsk("POST", "/count", body)), calms())
			out, _ := checkWorld(t, s, ops...)
			checkWorldBook(t, s, ops, out)
			if !slices.EqualFunc(out.Replies, []impl.Reply{done(0, 200, body), done(4, 200, fmt.Sprint(n))}, sameReply) {
				t.Errorf("%d bytes in pieces of %d: %s", n, piece, toldWorldOut(out))
			}
		}
	}
}

// The greatest contents, through windows of every size: more than they let has to wait.
func TestP24ContentsBeyondTheWindows(t *testing.T) {
	for _, c := range []struct{ stream, conn, piece, size int }{
		{16384, 16384, 4096, 8192}, {16384, 16384, 1, 8192}, {1000, 16384, 500, 8192}, {16384, 1000, 500, 8192}, {300, 400, 100, 3000}, {50, 60, 10, 600}, {7, 16384, 10, 300}, {16384, 20, 10, 200}, {1, 1, 10, 20}, {1, 16384, 1, 20}, {2, 3, 4, 20}, {8192, 8192, 4096, 8192}, {8191, 8193, 4096, 8192},
	} {
		body := string(rowOf(c.size, 11, 253))
		for _, both := range []bool{true, false} {
			s := worldWith(func(s *impl.WorldSetup) {
				s.Talk = talkWith(0, 0, c.piece)
				s.Link.Server.StreamWindow, s.Link.Server.ConnWindow = c.stream, c.conn
				if both {
					s.Link.Client.StreamWindow, s.Link.Client.ConnWindow = c.stream, c.conn
				}
			})
			ops := append(says(talkRoot(body)), calms(), calms())
			out, w := checkWorld(t, s, ops...)
			checkWorldBook(t, s, ops, out)
			if len(w.link.air) < 600 && !slices.EqualFunc(out.Replies, []impl.Reply{done(0, 200, body)}, sameReply) {
				t.Errorf("%+v, %d datagrams: %s", c, len(w.link.air), toldWorldOut(out))
			}
			if c.stream < c.size && w.link.met["credit"] == 0 {
				t.Errorf("%+v: credit never ran out", c)
			}
			if len(w.link.air) == 600 {
				t.Errorf("%+v: the air is full", c)
			}
		}
	}
}

// More datagrams than there may be: what is asked then is never Done, and nothing wrong is.
func TestP24TheAirIsFull(t *testing.T) {
	s := worldWith(func(s *impl.WorldSetup) { s.Link.Server.ConnWindow = 10 })
	asks, _ := manyAsks(16, 500)
	ops := append(says(asks...), calms(), calms(), onTalk(talkPrior(0, "u=1")), onTalk(talkDrop(60)))
	out, w := checkWorld(t, s, ops...)
	checkWorldBook(t, s, ops, out)
	if len(w.link.air) != 600 || doneOf(out) == 16 || out.Obs[16].Sent != 599 || out.Obs[17].Sent != 0 || out.Obs[18].Sent != 0 {
		t.Errorf("%d datagrams, %d are Done, %+v", len(w.link.air), doneOf(out), out.Obs[16:])
	}
}

// A request is given up at every time: ahead of the hello, amid the agreement, on its way, while its answer is on its way, and when it is Done.
func TestP24DropsAtEveryTime(t *testing.T) {
	for n := range 13 {
		s := scriptLike()
		ops := append(says(talkEcho("first"), talkEcho("second", "x-a", "1")), delivers(fill(n)...)...)
		ahead, _ := checkWorld(t, s, ops...)
		want := []impl.Reply{failed(0, impl.ErrCancel), done(4, 200, "second")}
		if ahead.Replies[0].Done {
			want[0] = done(0, 200, "first")
		}
		out := checkWorldReplies(t, s, append(slices.Clone(ops), onTalk(talkDrop(0)), calms(), onTalk(talkDrop(0)), onTalk(talkDrop(4)), calms()), want...)
		obs := out.Obs[len(ops)]
		wantObs := impl.WorldObs{State0: obs.State0, State1: obs.State1, Sent: way(obs.State0 == 1)}
		if ahead.Replies[0].Done {
			wantObs.Code, wantObs.Sent = impl.ErrState, 0
		}
		if obs != wantObs {
			t.Errorf("behind %d datagrams: %+v, want %+v", n, obs, wantObs)
		}
		if out.Obs[len(ops)+2].Code != impl.ErrState || out.Obs[len(ops)+3].Code != impl.ErrState {
			t.Errorf("%v", worldCodes(out))
		}
	}
}

// fill are the numbers from 0 on, so many.
func fill(n int) []int {
	var list []int
	for i := range n {
		list = append(list, i)
	}
	return list
}

// A goaway at every time: just those of which something has come are answered.
func TestP24GoawaysAtEveryTime(t *testing.T) {
	kinds := map[string]bool{}
	for n := range 24 {
		s := worldWith(func(s *impl.WorldSetup) { s.Link.Server.TwoWay, s.Link.Server.StreamWindow = 2, 40 })
		asks, done := manyAsks(5, 50)
		ops := append(says(asks...), delivers(fill(n)...)...)
		_, w := checkWorld(t, s, ops...)
		came := 0
		for id := range w.talk.peers[1].messages {
			came = max(came, id/4+1)
		}
		want := slices.Clone(done)
		for i := came; i < 5; i++ {
			want[i] = failed(4*i, impl.ErrCancel)
		}
		out := checkWorldReplies(t, s, append(slices.Clone(ops), onTalk(talkAway()), calms(), onTalk(talkEcho("late")), onTalk(talkAway()), calms()), want...)
		if obs := out.Obs[len(ops)]; obs.Code != impl.OK || obs.Id != 0 || obs.Sent != way(obs.State1 == 1) {
			t.Errorf("behind %d datagrams: %+v", n, obs)
		}
		if late := out.Obs[len(ops)+2]; late.Code != impl.ErrCancel || out.Obs[len(ops)+3].Code != impl.ErrState {
			t.Errorf("behind %d datagrams: %v", n, worldCodes(out))
		}
		kinds[fmt.Sprint(came)] = true
	}
	if len(kinds) < 3 {
		t.Errorf("goaways at %v alone", kinds)
	}
	// The client hears of it late: till then it may ask.
	ops := slices.Concat(does(linkCalm(1)), says(talkAway(), talkEcho("meanwhile")), []impl.WorldOp{calms()})
	out := checkWorldReplies(t, plainWorld(), ops, failed(0, impl.ErrCancel))
	if out.Obs[2].Code != impl.OK || out.Obs[2].Sent != 1 {
		t.Errorf("%+v", out.Obs)
	}
}

// A server that is closed, or has yet to open, says nothing of a goaway.
func TestP24GoawaysThatAreNotHeard(t *testing.T) {
	ops := slices.Concat(says(talkAway()), does(linkCalm(3)), says(talkEcho("x")), []impl.WorldOp{calms()})
	out := checkWorldReplies(t, plainWorld(), ops)
	if !slices.Equal(worldCodes(out), []int{0, 0, 23, 0}) || out.Obs[0].Sent != 0 {
		t.Errorf("%+v", out.Obs)
	}
	ops = slices.Concat(does(linkCalm(3), linkClose(1, 0)), says(talkAway(), talkEcho("x")), []impl.WorldOp{calms()})
	out = checkWorldReplies(t, plainWorld(), ops, open(0))
	if out.Obs[2].Sent != 0 || out.Obs[2].Code != impl.OK || out.Obs[3].Code != impl.OK {
		t.Errorf("%+v", out.Obs)
	}
}

func TestP24PrioritiesAtEveryTime(t *testing.T) {
	for n := range 13 {
		s := scriptLike()
		ops := append(says(talkEcho("first", "priority", "u=5"), talkEcho("second", "priority", "i")), delivers(fill(n)...)...)
		out := checkWorldReplies(t, s, append(slices.Clone(ops), onTalk(talkPrior(0, "u=1")), onTalk(talkPrior(4, "")), onTalk(talkPrior(8, "u=1")), calms()), done(0, 200, "first"), done(4, 200, "second"))
		for i, code := range []int{0, 0, impl.ErrBad} {
			if obs := out.Obs[len(ops)+i]; obs.Code != code || obs.Sent != way(code == 0 && obs.State0 == 1) {
				t.Errorf("behind %d datagrams: %+v", n, obs)
			}
		}
	}
}

// lossy has of each datagram that a plain world puts in the air one world in which it meets with something.
func lossy(t *testing.T, s impl.WorldSetup, asks []impl.WorldOp, meets func(n int) []impl.WorldOp, want ...impl.Reply) {
	t.Helper()
	out, _ := checkWorld(t, s, append(slices.Clone(asks), calms())...)
	count := 1 + out.Obs[len(asks)].Sent
	for n := range count {
		ops := append(slices.Clone(asks), delivers(fill(n)...)...)
		ops = slices.Concat(ops, meets(n), []impl.WorldOp{calms(), calms()})
		out, _ := checkWorld(t, s, ops...)
		checkWorldBook(t, s, ops, out)
		if !slices.EqualFunc(out.Replies, want, sameReply) {
			t.Errorf("datagram %d of %d: %s", n, count, toldWorld(s, ops, out, out))
		}
	}
}

func TestP24WhateverMeetsADatagram(t *testing.T) {
	asks := says(talkEcho(strings.Repeat("content ", 300), "x-a", "1"), talkAsk("GET", "/part/some", "", "x-b", "2"), talkAsk("GET", "/long", "", "x-a", "1"))
	want := []impl.Reply{done(0, 200, strings.Repeat("content ", 300)), done(4, 200, "some"), done(8, 200, strings.Repeat("long ", 200))}
	model := scriptLike()
	model.Link.Cc, model.Link.Retry = 2, true
	for _, s := range []impl.WorldSetup{scriptLike(), model} {
		lossy(t, s, asks, func(n int) []impl.WorldOp { return does(linkLose()) }, want...)
		lossy(t, s, asks, func(n int) []impl.WorldOp { return does(linkSpoil(n, 15, 1), linkLose(), linkTick(1000)) }, want...)
		lossy(t, s, asks, func(n int) []impl.WorldOp { return append(delivers(n), delivers(n, n, 0)...) }, want...)
		lossy(t, s, asks, func(n int) []impl.WorldOp { return does(linkTick(3000000)) }, want...)
		lossy(t, s, asks, func(n int) []impl.WorldOp { return append(does(linkUpdate(n%2)), delivers(n)...) }, want...)
		// Whatever lies in the air comes the other way round.
		lossy(t, s, asks, func(n int) []impl.WorldOp {
			var back []impl.WorldOp
			for k := n + 6; k >= n; k-- {
				back = append(back, onLink(linkDeliver(k)))
			}
			return back
		}, want...)
		// A client that moves behind a retry has the token of another address: it is never let in.
		if s.Link.Retry {
			continue
		}
		lossy(t, s, asks, func(n int) []impl.WorldOp { return append(delivers(n), does(linkRebind(), linkTick(400000))...) }, want...)
	}
}

// A closing amid requests and responses: what is Done is right, and all else stays as it was.
func TestP24ClosingsAtEveryTime(t *testing.T) {
	s := scriptLike()
	asks := says(talkEcho("first"), talkAsk("GET", "/long", ""))
	states := map[[2]int]bool{}
	for n := range 16 {
		for side := range 2 {
			ops := slices.Concat(asks, delivers(fill(n)...), does(linkClose(side, 5)), says(talkEcho("late")), []impl.WorldOp{calms()}, says(talkDrop(8)), []impl.WorldOp{calms()})
			out, _ := checkWorld(t, s, ops...)
			checkWorldBook(t, s, ops, out)
			if out.Replies[2].Done || out.Replies[2].Code != impl.ErrCancel {
				t.Errorf("behind %d datagrams side %d closes: %s", n, side, toldWorldOut(out))
			}
			states[[2]int{doneOf(out), side}] = true
		}
	}
	if len(states) < 5 {
		t.Errorf("%v", states)
	}
}

// Silence: both ends close, and what is asked behind it is never answered.
func TestP24Silence(t *testing.T) {
	for _, ahead := range [][]impl.WorldOp{nil, delivers(0), delivers(0, 1, 2), does(linkCalm(1))} {
		ops := slices.Concat(ahead, does(linkLose(), linkTick(60000000), linkTick(60000000)), says(talkEcho("late"), talkAway()), []impl.WorldOp{calms()})
		out := checkWorldReplies(t, idleWorld(), ops, open(0))
		if out.Client.Code != impl.ErrIdle || out.Server.Code != impl.ErrIdle || out.Obs[len(ops)-1].Sent != 0 {
			t.Errorf("%s", toldWorldOut(out))
		}
	}
}

// A stream of the connection holds 65536 bytes: what the control stream would have beyond that is not handed on, and all else goes on.
func TestP24MoreThanAStreamHolds(t *testing.T) {
	s := wideWorld()
	text := strings.Repeat("u=1,", 256)
	prior := slices.Repeat(says(talkPrior(0, text)), 70)
	// A HPriority of them has 1028 bytes, the beginning of the stream 9: 63 of them are below the limit, 64 beyond.
	for _, c := range []struct {
		count int
		waits bool
	}{{62, false}, {63, false}, {64, true}, {70, true}} {
		for _, open := range []bool{true, false} {
			ops := says(talkEcho("first"))
			if open {
				ops = append(ops, onLink(linkCalm(1)))
			}
			ops = slices.Concat(ops, prior[:c.count], []impl.WorldOp{calms()}, says(talkEcho("second", "x-a", "1")), []impl.WorldOp{calms()}, says(talkPrior(0, "")), []impl.WorldOp{calms()})
			out, w := checkWorld(t, s, ops...)
			checkWorldBook(t, s, ops, out)
			if (w.met["no room on a stream"] > 0) != c.waits || doneOf(out) != 2 {
				t.Errorf("%d priorities, open %v: %v, %s", c.count, open, w.met, toldWorldOut(out))
			}
			if last := out.Obs[len(ops)-2]; last.Code != impl.OK || last.Sent != way(!c.waits) {
				t.Errorf("%d priorities, open %v: %+v", c.count, open, last)
			}
		}
	}
}
