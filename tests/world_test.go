package tests

import (
	"slices"
	"testing"

	"loop.example/g00012/impl"
)

func TestWorldLimits(t *testing.T) {
	for i, pair := range [][2]int{{impl.MaxWorldOps, 100}, {impl.MaxScript, 20000}, {impl.WTalk, 1}, {impl.WLink, 2}} {
		if pair[0] != pair[1] {
			t.Errorf("constant %d is %d, want %d", i, pair[0], pair[1])
		}
	}
}

func plainWorld() impl.WorldSetup {
	return impl.WorldSetup{Link: plainLink(), Talk: talkWith(400, 2, 100)}
}

// wideWorld lets as much be sent as there may be.
func wideWorld() impl.WorldSetup {
	return impl.WorldSetup{Link: wideLink(), Talk: talkWith(4096, 64, 4096)}
}

// worldWith is a plain world with a change.
func worldWith(change func(s *impl.WorldSetup)) impl.WorldSetup {
	s := plainWorld()
	change(&s)
	return s
}

// says are operations of the talk, does those of the connection.
func says(ops ...impl.TalkOp) []impl.WorldOp {
	var list []impl.WorldOp
	for _, op := range ops {
		list = append(list, onTalk(op))
	}
	return list
}

func does(ops ...impl.LinkOp) []impl.WorldOp {
	var list []impl.WorldOp
	for _, op := range ops {
		list = append(list, onLink(op))
	}
	return list
}

func calms() impl.WorldOp { return onLink(linkCalm(60)) }

func delivers(nums ...int) []impl.WorldOp { return does(linkEach(linkDeliver, nums...)...) }

func worldCodes(out impl.WorldOut) []int {
	var codes []int
	for _, obs := range out.Obs {
		codes = append(codes, obs.Code)
	}
	return codes
}

// checkWorldReplies runs a world, and each beginning of it, in which no end of the talk meets an error.
func checkWorldReplies(t *testing.T, s impl.WorldSetup, ops []impl.WorldOp, want ...impl.Reply) impl.WorldOut {
	t.Helper()
	out, _ := checkWorldEach(t, s, ops...)
	checkWorldBook(t, s, ops, out)
	if !slices.EqualFunc(out.Replies, want, sameReply) {
		t.Errorf("Replies of %s\n  want\n    %s", toldWorld(s, ops, out, out), toldTalkOut(impl.TalkOut{Replies: want}))
	}
	return out
}

// worldLast asks the code of the last operation; beside one no Id stands.
func worldLast(t *testing.T, s impl.WorldSetup, code int, ops ...impl.WorldOp) {
	t.Helper()
	out, _ := checkWorld(t, s, ops...)
	if got := out.Obs[len(ops)-1]; got.Code != code || code != impl.OK && got.Id != 0 {
		t.Errorf("the last answer is %+v, want code %d, of %s", got, code, toldWorld(s, ops, out, out))
	}
}

// worldStep is an operation, what it answers, and how many bytes client and server have sent behind it.
type worldStep struct {
	op             impl.WorldOp
	want           impl.WorldObs
	client, server int
}

// A short packet has 18 bytes beside its frames, one of a handshake 34; a client's first ones have 1115 in all.
func worldByHand() []worldStep {
	obs := func(sent, state0, state1 int) impl.WorldObs {
		return impl.WorldObs{Sent: sent, State0: state0, State1: state1}
	}
	asked := func(id, sent, state0, state1 int) impl.WorldObs {
		return impl.WorldObs{Id: id, Sent: sent, State0: state0, State1: state1}
	}
	return []worldStep{
		{onTalk(talkAsk("GET", "/", "")), asked(0, 0, 0, 0), 1115, 0},
		// The server's hello, and its check.
		{onLink(linkDeliver(0)), obs(2, 0, 0), 1115, 127 + 46},
		{onLink(linkDeliver(1)), obs(1, 0, 0), 2 * 1115, 173},
		// The client's check; then the request of 6 bytes with its end, control with 8, and a byte on encoder and decoder: 9 + 11 + 4 + 4.
		{onLink(linkDeliver(2)), obs(2, 1, 0), 2230 + 51 + 46, 173},
		{onLink(linkDeliver(3)), obs(0, 1, 0), 2327, 173},
		// An acknowledgement; that all is done, and the server's three streams: 1 + 11 + 4 + 4.
		{onLink(linkDeliver(4)), obs(2, 1, 1), 2327, 173 + 39 + 38},
		// An acknowledgement of 5, one more stream of 2, the response of 13 bytes with its end, and the capacity on the encoder's stream: 5 + 2 + 16 + 7.
		{onLink(linkDeliver(5)), obs(1, 1, 1), 2327, 250 + 48},
		{onLink(linkDeliver(6)), obs(0, 1, 1), 2327, 298},
		// An acknowledgement, and the capacity.
		{onLink(linkDeliver(7)), obs(1, 1, 1), 2327 + 18 + 5 + 7, 298},
		{onLink(linkDeliver(8)), obs(1, 1, 1), 2357 + 18 + 5, 298},
		// A request of 10 bytes with its end, and 7 bytes of instructions: 13 + 11.
		{onTalk(talkAsk("DELETE", "/gone", "xy")), asked(4, 1, 1, 1), 2380 + 18 + 24, 298},
		{onLink(linkDeliver(9)), obs(1, 1, 1), 2422, 298 + 23},
		{onLink(linkDeliver(10)), obs(0, 1, 1), 2422, 321},
		// An acknowledgement, one more stream, the response of 5 bytes, and that the section was read: 5 + 2 + 8 + 5.
		{onLink(linkDeliver(11)), obs(1, 1, 1), 2422, 321 + 18 + 20},
		{onLink(linkDeliver(12)), obs(0, 1, 1), 2422, 359},
		{onLink(linkDeliver(13)), obs(1, 1, 1), 2422 + 23, 359},
		{onTalk(talkAsk("get", "/", "")), impl.WorldObs{Code: impl.ErrBad, State0: 1, State1: 1}, 2445, 359},
		{onTalk(talkDrop(0)), impl.WorldObs{Code: impl.ErrState, State0: 1, State1: 1}, 2445, 359},
		// 6 bytes of a HPriority on control, from 8 on.
		{onTalk(talkPrior(4, "u=1")), obs(1, 1, 1), 2445 + 18 + 4 + 6, 359},
		// 3 bytes of a HGoaway.
		{onTalk(talkAway()), obs(1, 1, 1), 2473, 359 + 18 + 4 + 3},
		{onTalk(talkAway()), impl.WorldObs{Code: impl.ErrState, State0: 1, State1: 1}, 2473, 384},
		{onLink(linkTick(7)), impl.WorldObs{Time: 7, State0: 1, State1: 1}, 2473, 384},
		// 3 bytes of a FAppClose are filled up to 4.
		{onLink(linkClose(0, 3)), impl.WorldObs{Sent: 1, Time: 7, State0: 2, State1: 1}, 2473 + 18 + 4, 384},
		{onTalk(talkAsk("GET", "/", "")), impl.WorldObs{Id: 8, Time: 7, State0: 2, State1: 1}, 2495, 384},
		{onLink(linkDeliver(17)), impl.WorldObs{Time: 7, State0: 2, State1: 2}, 2495, 384},
		{onTalk(talkAway()), impl.WorldObs{Code: impl.ErrState, Time: 7, State0: 2, State1: 2}, 2495, 384},
	}
}

func TestP24AWorldByHand(t *testing.T) {
	s := scriptWorld()
	steps := worldByHand()
	var ops []impl.WorldOp
	for i, step := range steps {
		ops = append(ops, step.op)
		out, _ := checkWorld(t, s, ops...)
		if got := out.Obs[i]; got != step.want || out.Client.Gone != step.client || out.Server.Gone != step.server {
			t.Errorf("step %d, %s: %+v, gone %d %d, want %+v, %d %d", i, toldWorldOp(step.op), got, out.Client.Gone, out.Server.Gone, step.want, step.client, step.server)
		}
	}
	checkWorldReplies(t, s, ops, done(0, 200, "home"), done(4, 204, ""), open(8))
	checkWorldReplies(t, s, ops[:9], open(0))
	checkWorldReplies(t, s, ops[:10], done(0, 200, "home"))
	checkWorldReplies(t, s, ops[:15], done(0, 200, "home"), open(4))
}
