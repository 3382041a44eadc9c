package tests

import (
	"fmt"
	"math"
	"slices"
	"strings"
	"testing"

	"loop.example/g00012/impl"
)

func TestWorldHowMany(t *testing.T) {
	for _, n := range []int{0, 1, 2, 99, 100} {
		for _, op := range []impl.WorldOp{onLink(linkTick(7)), {}, {Kind: 99}, onTalk(talkAway())} {
			out, _ := checkWorld(t, plainWorld(), slices.Repeat([]impl.WorldOp{op}, n)...)
			if out.Code != impl.OK || len(out.Obs) != n {
				t.Errorf("%d operations: code %d, %d answers", n, out.Code, len(out.Obs))
			}
			refusesWorld(t, impl.WorldSetup{}, slices.Repeat([]impl.WorldOp{op}, n), impl.ErrBad)
		}
	}
	for _, n := range []int{101, 102, 120, 4096, 4097, 10000} {
		refusesWorld(t, plainWorld(), slices.Repeat(does(linkTick(7)), n), impl.ErrLong)
		refusesWorld(t, impl.WorldSetup{}, make([]impl.WorldOp, n), impl.ErrLong)
		refusesWorld(t, worldWith(func(s *impl.WorldSetup) { s.Talk.Piece = 0 }), make([]impl.WorldOp, n), impl.ErrLong)
		refusesWorld(t, worldWith(func(s *impl.WorldSetup) { s.Link.Server.TwoWay = 0 }), make([]impl.WorldOp, n), impl.ErrLong)
	}
}

// worldAsks is a request, and one with a field that the table takes.
func worldAsks() []impl.WorldOp {
	return append(says(talkEcho("content"), talkRoot("more", "x-a", "1")), calms())
}

func takenWorld(t *testing.T, s impl.WorldSetup) {
	t.Helper()
	ops := worldAsks()
	out, _ := checkWorld(t, s, ops...)
	checkWorldBook(t, s, ops, out)
	if out.Code != impl.OK || doneOf(out) != 2 || out.Client.State != impl.LsOpen || out.Server.State != impl.LsOpen {
		t.Errorf("%+v: %s", s, toldWorldOut(out))
	}
	checkWorld(t, s)
}

func refusedWorld(t *testing.T, s impl.WorldSetup) {
	t.Helper()
	refusesWorld(t, s, worldAsks(), impl.ErrBad)
	refusesWorld(t, s, nil, impl.ErrBad)
}

func eachWorld(t *testing.T, check func(*testing.T, impl.WorldSetup), changes ...func(s *impl.WorldSetup)) {
	t.Helper()
	for _, change := range changes {
		check(t, worldWith(change))
	}
}

func TestWorldParamsOfASetup(t *testing.T) {
	for side := range 2 {
		leastTwoWay := side
		for _, n := range []struct {
			field       func(p *impl.Params) *int
			least, most int
		}{
			{func(p *impl.Params) *int { return &p.Idle }, 0, maxTime},
			{func(p *impl.Params) *int { return &p.Size }, 1200, 2000},
			{func(p *impl.Params) *int { return &p.ConnWindow }, 1, 16384},
			{func(p *impl.Params) *int { return &p.StreamWindow }, 1, 16384},
			{func(p *impl.Params) *int { return &p.TwoWay }, leastTwoWay, 64},
			{func(p *impl.Params) *int { return &p.OneWay }, 3, 64},
			{func(p *impl.Params) *int { return &p.AckDelay }, 0, 1000000},
			{func(p *impl.Params) *int { return &p.Ids }, 2, 16},
			{func(p *impl.Params) *int { return &p.Datagram }, 0, 1500},
		} {
			set := func(v int) func(s *impl.WorldSetup) {
				return func(s *impl.WorldSetup) { *n.field(paramsIn(&s.Link)[side]) = v }
			}
			eachWorld(t, takenWorld, set(n.least), set(n.least+1), set(n.most))
			eachWorld(t, refusedWorld, set(n.least-1), set(n.most+1), set(-1), set(math.MinInt), set(math.MaxInt))
		}
		eachWorld(t, takenWorld, func(s *impl.WorldSetup) { paramsIn(&s.Link)[side].NoMove = true })
		for _, b := range [][]byte{{1}, []byte("12345678"), []byte("123456789")} {
			eachWorld(t, refusedWorld,
				func(s *impl.WorldSetup) { paramsIn(&s.Link)[side].Origin = b },
				func(s *impl.WorldSetup) { paramsIn(&s.Link)[side].Token = b },
				func(s *impl.WorldSetup) { paramsIn(&s.Link)[side].First = b },
			)
		}
	}
}

// How many streams each end has to let in: all four numbers around their edges.
func TestWorldStreamsOfASetup(t *testing.T) {
	for clientOne := 0; clientOne <= 4; clientOne++ {
		for serverOne := 0; serverOne <= 4; serverOne++ {
			for serverTwo := 0; serverTwo <= 2; serverTwo++ {
				for _, clientTwo := range []int{0, 1} {
					s := plainWorld()
					s.Link.Client.OneWay, s.Link.Server.OneWay, s.Link.Server.TwoWay, s.Link.Client.TwoWay = clientOne, serverOne, serverTwo, clientTwo
					if clientOne >= 3 && serverOne >= 3 && serverTwo >= 1 {
						takenWorld(t, s)
					} else {
						refusedWorld(t, s)
					}
				}
			}
		}
	}
}

func TestWorldLinkOfASetup(t *testing.T) {
	for _, n := range []int{0, 15, 17} {
		eachWorld(t, refusedWorld, func(s *impl.WorldSetup) { s.Link.Shared = make([]byte, n) }, func(s *impl.WorldSetup) { s.Link.Seed = make([]byte, n) })
	}
	for _, list := range [][]int{nil, {0}, {4294967296}, {1, 1}, {1, 2, 3, 4, 5, 6, 7, 8, 9}, {-1}} {
		eachWorld(t, refusedWorld, func(s *impl.WorldSetup) { s.Link.Versions = list }, func(s *impl.WorldSetup) { s.Link.ServerVersions = list })
	}
	for _, list := range [][]string{nil, {""}, {"b", "b"}, {"a", "b", "c", "d", "e"}, {strings.Repeat("n", 17)}} {
		eachWorld(t, refusedWorld, func(s *impl.WorldSetup) { s.Link.Names = list }, func(s *impl.WorldSetup) { s.Link.ServerNames = list })
	}
	for _, cc := range []int{0, 3, -1, math.MinInt, math.MaxInt} {
		eachWorld(t, refusedWorld, func(s *impl.WorldSetup) { s.Link.Cc = cc })
	}
	eachWorld(t, takenWorld,
		func(s *impl.WorldSetup) { s.Link.Cc = 2 },
		func(s *impl.WorldSetup) { s.Link.Retry = true },
		func(s *impl.WorldSetup) { s.Link.Shared, s.Link.Seed = make([]byte, 16), make([]byte, 16) },
		func(s *impl.WorldSetup) {
			s.Link.Versions, s.Link.ServerVersions = []int{9, 8, 7, 6, 5, 4, 3, 4294967295}, []int{4294967295}
		},
		func(s *impl.WorldSetup) {
			s.Link.Names, s.Link.ServerNames = []string{"d", "c", "b", strings.Repeat("n", 16)}, []string{strings.Repeat("n", 16)}
		},
	)
	// Ends that do not meet: nothing is Done, and nothing is wrong with the setup.
	for _, s := range []impl.WorldSetup{
		worldWith(func(s *impl.WorldSetup) { s.Link.Versions, s.Link.ServerVersions = []int{1}, []int{2} }),
		worldWith(func(s *impl.WorldSetup) { s.Link.Names, s.Link.ServerNames = []string{"a"}, []string{"z"} }),
	} {
		out := checkWorldReplies(t, s, append(worldAsks(), calms()), open(0), open(4))
		if out.Client.State == impl.LsOpen || out.Server.State == impl.LsOpen {
			t.Errorf("%s", toldWorldOut(out))
		}
	}
}

func TestWorldTalkOfASetup(t *testing.T) {
	for _, n := range []struct {
		field       func(s *impl.TalkSetup) *int
		least, most int
	}{
		{func(s *impl.TalkSetup) *int { return &s.ClientTable }, 0, 4096}, {func(s *impl.TalkSetup) *int { return &s.ServerTable }, 0, 4096},
		{func(s *impl.TalkSetup) *int { return &s.Blocked }, 0, 64}, {func(s *impl.TalkSetup) *int { return &s.Piece }, 1, 4096},
	} {
		set := func(v int) func(s *impl.WorldSetup) {
			return func(s *impl.WorldSetup) { *n.field(&s.Talk) = v }
		}
		eachWorld(t, takenWorld, set(n.least), set(n.least+1), set(n.most-1), set(n.most))
		eachWorld(t, refusedWorld, set(n.least-1), set(n.most+1), set(-1), set(math.MinInt), set(math.MaxInt))
	}
	route := impl.Route{Method: "GET", Path: "/", Kind: 1}
	eachWorld(t, refusedWorld,
		func(s *impl.WorldSetup) { s.Talk.Routes = []impl.Route{{}} },
		func(s *impl.WorldSetup) { s.Talk.Routes = slices.Repeat([]impl.Route{route}, 17) },
		func(s *impl.WorldSetup) { s.Talk.Routes = []impl.Route{route, {Method: "GET", Path: "/a?b", Kind: 1}} },
		func(s *impl.WorldSetup) { s.Talk.Routes = []impl.Route{route, {Method: "GET", Path: "/", Kind: 6}} },
		func(s *impl.WorldSetup) {
			s.Talk.Routes = []impl.Route{{Method: "GET", Path: "/", Kind: 1, Status: 200}}
		},
		func(s *impl.WorldSetup) {
			s.Talk.Routes = []impl.Route{{Method: "GET", Path: "/", Kind: 1, Text: strings.Repeat("x", 1025)}}
		},
	)
	eachWorld(t, takenWorld,
		func(s *impl.WorldSetup) { s.Talk.Routes = nil },
		func(s *impl.WorldSetup) { s.Talk.Routes = slices.Repeat([]impl.Route{route}, 16) },
	)
	// Both wrong at once.
	eachWorld(t, refusedWorld, func(s *impl.WorldSetup) { *s = impl.WorldSetup{} }, func(s *impl.WorldSetup) { s.Link = impl.LinkSetup{} }, func(s *impl.WorldSetup) { s.Talk = impl.TalkSetup{} })
}

// worldStates bring the ends into states, which stand beside them: ahead of the hello, amid the agreement, open, behind a closing and behind silence.
func worldStates() []struct {
	ops    []impl.WorldOp
	states [2]int
} {
	type state = struct {
		ops    []impl.WorldOp
		states [2]int
	}
	var list []state
	for _, each := range linkStates() {
		list = append(list, state{does(each.ops...), each.states})
	}
	return append(list,
		state{does(linkTick(99999999)), [2]int{2, 2}},
		state{does(linkCalm(1), linkTick(50000000), linkTick(50000001)), [2]int{2, 2}},
		state{append(delivers(0, 1, 2), does(linkLose(), linkTick(60000000))...), [2]int{2, 2}},
	)
}

// idleWorld closes behind silence.
func idleWorld() impl.WorldSetup {
	return worldWith(func(s *impl.WorldSetup) { s.Link.Client.Idle, s.Link.Server.Idle = 40000000, 50000000 })
}

// openWorlds has of each state a world in which a request was asked ahead of all.
func openWorlds(t *testing.T, check func(ahead []impl.WorldOp, states [2]int)) {
	t.Helper()
	for _, state := range worldStates() {
		ahead := append(says(talkEcho("content", "x-a", "1")), state.ops...)
		out, _ := checkWorld(t, idleWorld(), ahead...)
		if out.Client.State != state.states[0] || out.Server.State != state.states[1] {
			t.Fatalf("states %d and %d, want %v: %s", out.Client.State, out.Server.State, state.states, toldWorld(idleWorld(), ahead, out, out))
		}
		check(ahead, state.states)
	}
}

// In the talk the states of the connection tell nothing: what a kind answers hangs on the talk alone.
func TestWorldEachTalkKindInEachState(t *testing.T) {
	openWorlds(t, func(ahead []impl.WorldOp, states [2]int) {
		begun, _ := checkWorld(t, idleWorld(), ahead...)
		for kind := -1; kind <= 10; kind++ {
			for side := -1; side <= 2; side++ {
				op := impl.TalkOp{Kind: kind, Side: side, Id: 0, N: 1, Request: aRequest("POST", "/"), Body: []byte("body"), Text: "u=2"}
				want := impl.ErrBad
				if inRange(side, 0, 1) && slices.Contains([]int{impl.TAsk, impl.TDrop, impl.TGoaway, impl.TPrior}, kind) {
					want = impl.OK
				}
				if want == impl.OK && kind == impl.TDrop && begun.Replies[0].Done {
					want = impl.ErrState
				}
				ops := append(slices.Clone(ahead), onTalk(op), onTalk(op), calms())
				out, _ := checkWorld(t, idleWorld(), ops...)
				obs := out.Obs[len(ahead)]
				id, doer := 4*way(kind == impl.TAsk && want == impl.OK), way(kind == impl.TGoaway)
				sent := way(want == impl.OK && states[doer] == 1)
				if obs.Code != want || obs.Id != id || obs.Sent != sent || obs.Time != out.Obs[len(ahead)-1].Time || [2]int{obs.State0, obs.State1} != states {
					t.Errorf("%s in states %v: %+v, want code %d, id %d, sent %d", toldTalkOp(op), states, obs, want, id, sent)
				}
				checkWorldBook(t, idleWorld(), ops, out)
			}
		}
	})
}

func TestWorldEachLinkKindInEachState(t *testing.T) {
	openWorlds(t, func(ahead []impl.WorldOp, states [2]int) {
		for kind := -1; kind <= 15; kind++ {
			for side := -1; side <= 2; side++ {
				op := impl.LinkOp{Kind: kind, Side: side, N: way(kind == 12), Data: []byte("data")}
				want := codeByState(kind, side, states)
				if slices.Contains([]int{impl.LOpen, impl.LWrite, impl.LRead, impl.LReset, impl.LStop}, kind) {
					want = impl.ErrBad
				}
				ops := append(slices.Clone(ahead), onLink(op), onLink(op), calms())
				out, _ := checkWorld(t, idleWorld(), ops...)
				if obs := out.Obs[len(ahead)]; obs.Code != want || obs.Id != 0 {
					t.Errorf("%s in states %v: %+v, want code %d", toldLinkOp(op), states, obs, want)
				}
				checkWorldBook(t, idleWorld(), ops, out)
			}
		}
	})
}

// Each Kind, and what it does with the fields of the other.
func TestWorldKinds(t *testing.T) {
	ahead := append(says(talkEcho("content")), calms())
	asks, ticks := talkRoot("more"), linkTick(5)
	for kind := -1; kind <= 4; kind++ {
		op := impl.WorldOp{Kind: kind, Talk: asks, Link: ticks}
		out, _ := checkWorld(t, plainWorld(), append(slices.Clone(ahead), op, calms())...)
		obs, begun := out.Obs[2], out.Obs[1].Time
		want := impl.WorldObs{Code: impl.ErrBad, Time: begun, State0: 1, State1: 1}
		switch kind {
		case impl.WTalk:
			want.Code, want.Id, want.Sent = impl.OK, 4, 1
		case impl.WLink:
			want.Code, want.Time = impl.OK, begun+5
		}
		if obs != want || len(out.Replies) != 1+way(kind == impl.WTalk) {
			t.Errorf("kind %d: %+v, want %+v", kind, obs, want)
		}
	}
	for _, kind := range oddInts() {
		if !inRange(kind, 1, 2) {
			worldLast(t, plainWorld(), impl.ErrBad, append(slices.Clone(ahead), impl.WorldOp{Kind: kind, Talk: asks, Link: ticks})...)
		}
	}
	// The fields of the other kind may be anything.
	odd := impl.LinkOp{Kind: 99, Side: -7, Id: math.MinInt, N: math.MaxInt, At: -1, Data: zeroes(70000), Flag: true}
	worldLast(t, plainWorld(), impl.OK, append(slices.Clone(ahead), impl.WorldOp{Kind: impl.WTalk, Talk: asks, Link: odd})...)
	none := impl.TalkOp{Kind: -99, Side: 7, Id: math.MinInt, N: math.MaxInt, Request: impl.Request{Method: "no method"}, Body: zeroes(9000), Text: strings.Repeat("x", 2000)}
	worldLast(t, plainWorld(), impl.OK, append(slices.Clone(ahead), impl.WorldOp{Kind: impl.WLink, Link: ticks, Talk: none})...)
	// A kind that is right in the other list alone: 9 and 10 are kinds of a connection, 2 to 4 and 8 of a talk.
	for kind := 1; kind <= 13; kind++ {
		talk, link := talkEachKind()[(kind-1)%8], impl.LinkOp{Kind: kind, N: 1}
		talk.Kind = kind
		for _, op := range []impl.WorldOp{{Kind: 1, Talk: talk, Link: ticks}, {Kind: 2, Talk: asks, Link: link}} {
			checkWorld(t, plainWorld(), append(slices.Clone(ahead), op, calms())...)
		}
	}
}

// Every number that an operation has, at the edges of numbers.
func TestWorldOddNumbers(t *testing.T) {
	values := []int{math.MinInt, math.MinInt + 1, -1, 0, 1, 2, 3, 4, 5, 8, 60, 61, 255, 256, 600, 100000000, 100000001, maxTime, maxStreams, maxVar, maxVar + 1, math.MaxInt - 1, math.MaxInt}
	ahead := append(says(talkEcho("content"), talkRoot("more")), delivers(0, 1, 2, 3, 4)...)
	for _, v := range values {
		mustEnd(t, fmt.Sprintf("WorldRun with %d", v), func() {
			for _, kind := range []int{impl.LDeliver, impl.LSpoil, impl.LTick, impl.LClose, impl.LRebind, impl.LUpdate, impl.LCalm, impl.LLose} {
				ops := slices.Clone(ahead)
				for field := range 5 {
					op := impl.LinkOp{Kind: kind, Side: field % 2, N: 1}
					*linkFields(&op)[field] = v
					ops = append(ops, onLink(op))
				}
				checkWorld(t, plainWorld(), append(ops, calms())...)
			}
			for _, op := range []impl.TalkOp{talkEcho("y"), talkDrop(4), talkAway(), talkPrior(0, "u=1")} {
				ops := slices.Clone(ahead)
				for _, field := range []func(op *impl.TalkOp) *int{
					func(op *impl.TalkOp) *int { return &op.Kind }, func(op *impl.TalkOp) *int { return &op.Side },
					func(op *impl.TalkOp) *int { return &op.Id }, func(op *impl.TalkOp) *int { return &op.N },
				} {
					op := op
					*field(&op) = v
					ops = append(ops, onTalk(op))
				}
				checkWorld(t, plainWorld(), append(ops, calms())...)
			}
		})
	}
}

// Two faults at once: what the chapters name first is told.
func TestWorldOrderOfCodes(t *testing.T) {
	ahead := append(says(talkEcho("content")), calms())
	for _, c := range []struct {
		op   impl.WorldOp
		code int
	}{
		{impl.WorldOp{Kind: 3, Talk: impl.TalkOp{Kind: impl.TDrop, Id: 0}}, impl.ErrBad},
		{onTalk(impl.TalkOp{Kind: impl.TDrop, Side: 2}), impl.ErrBad},
		{onTalk(impl.TalkOp{Kind: impl.TTurn}), impl.ErrBad},
		{onTalk(talkDrop(0)), impl.ErrState},
		{onTalk(talkDrop(3)), impl.ErrBad},
		{onTalk(talkPrior(8, strings.Repeat("x", 1025))), impl.ErrBad},
		{onTalk(talkPrior(0, strings.Repeat("x", 1025))), impl.ErrBad},
		{onTalk(talkPrior(0, strings.Repeat("x", 1024))), impl.OK},
		{onTalk(tooLong()), impl.ErrLong},
		{onTalk(talkEcho(strings.Repeat("x", 8193))), impl.ErrBad},
		{onTalk(talkEcho("abc", "content-length", "4")), impl.ErrBad},
		{onLink(impl.LinkOp{Kind: impl.LRead, Id: 0, N: 0}), impl.ErrBad},
		{onLink(linkOpen(0)), impl.ErrBad},
		{onLink(linkWrite(0, 0, "x")), impl.ErrBad},
		{onLink(linkReset(0, 0, 1)), impl.ErrBad},
		{onLink(linkStop(0, 0, 1)), impl.ErrBad},
		{onLink(impl.LinkOp{Kind: impl.LUpdate, Side: 2}), impl.ErrBad},
		{onLink(linkClose(0, -1)), impl.ErrBad},
		{onLink(impl.LinkOp{Kind: impl.LRebind, Side: 1}), impl.ErrState},
		{onLink(linkDeliver(-1)), impl.ErrBad},
		{onLink(linkDeliver(999)), impl.ErrBad},
		{onLink(linkSpoil(0, 1115, 1)), impl.ErrBad},
		{onLink(linkTick(-1)), impl.ErrBad},
		{onLink(linkCalm(61)), impl.ErrBad},
		{onLink(linkCalm(0)), impl.ErrBad},
	} {
		worldLast(t, plainWorld(), c.code, append(slices.Clone(ahead), c.op)...)
		// Beside a code Sent is 0, Time and the states are as they stand.
		out, _ := checkWorld(t, plainWorld(), append(slices.Clone(ahead), onLink(linkTick(77)), c.op)...)
		if obs := out.Obs[3]; c.code != impl.OK && obs != (impl.WorldObs{Code: c.code, Time: out.Obs[2].Time, State0: 1, State1: 1}) {
			t.Errorf("%s: %+v", toldWorldOp(c.op), obs)
		}
	}
	// Who is closed hears of that first; the talk does not ask for it.
	closed := append(slices.Clone(ahead), does(linkClose(0, 1))...)
	worldLast(t, plainWorld(), impl.ErrState, append(slices.Clone(closed), onLink(linkClose(0, -1)))...)
	worldLast(t, plainWorld(), impl.ErrState, append(slices.Clone(closed), onLink(linkUpdate(0)))...)
	worldLast(t, plainWorld(), impl.OK, append(slices.Clone(closed), onTalk(talkEcho("late")))...)
	worldLast(t, plainWorld(), impl.OK, append(slices.Clone(closed), onTalk(talkAway()))...)
	worldLast(t, plainWorld(), impl.ErrState, onLink(linkUpdate(0)))
	worldLast(t, plainWorld(), impl.ErrState, does(linkCalm(1), linkUpdate(0), linkUpdate(0))...)
}
