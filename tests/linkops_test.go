package tests

import (
	"math"
	"slices"
	"strings"
	"testing"

	"loop.example/g00012/impl"
)

func TestLinkHowMany(t *testing.T) {
	for _, n := range []int{0, 1, 2, 119, 120} {
		takesLink(t, plainLink(), slices.Repeat([]impl.LinkOp{linkTick(7)}, n))
	}
	for _, n := range []int{121, 122, 5000} {
		refusesLink(t, plainLink(), slices.Repeat([]impl.LinkOp{linkTick(7)}, n), impl.ErrLong)
		refusesLink(t, impl.LinkSetup{}, make([]impl.LinkOp, n), impl.ErrLong)
	}
	refusesLink(t, impl.LinkSetup{}, make([]impl.LinkOp, 120), impl.ErrBad)
	refusesLink(t, impl.LinkSetup{}, nil, impl.ErrBad)
}

// eachLinkChange has a setup with one thing changed.
func eachLinkChange(t *testing.T, check func(*testing.T, impl.LinkSetup), changes ...func(s *impl.LinkSetup)) {
	t.Helper()
	for _, change := range changes {
		s := plainLink()
		change(&s)
		check(t, s)
	}
}

func refusedSetup(t *testing.T, s impl.LinkSetup) {
	t.Helper()
	refusesLink(t, s, nil, impl.ErrBad)
	refusesLink(t, s, []impl.LinkOp{linkCalm(3), {Kind: 99}}, impl.ErrBad)
}

// takenSetup is one in which both ends come to be open, if they have a version in common.
func takenSetup(t *testing.T, s impl.LinkSetup) {
	t.Helper()
	takesLink(t, s, nil)
	if got := takesLink(t, s, []impl.LinkOp{linkCalm(3)}); !bothOpen(got) {
		t.Errorf("%+v ends as %+v", s, got)
	}
}

func TestLinkSecrets(t *testing.T) {
	for _, n := range []int{0, 1, 15, 17, 32} {
		eachLinkChange(t, refusedSetup,
			func(s *impl.LinkSetup) { s.Shared = make([]byte, n) },
			func(s *impl.LinkSetup) { s.Seed = make([]byte, n) },
		)
	}
	eachLinkChange(t, takenSetup, func(s *impl.LinkSetup) { s.Shared, s.Seed = make([]byte, 16), make([]byte, 16) })
}

func TestLinkVersionsOfASetup(t *testing.T) {
	for _, list := range [][]int{nil, {}, {0}, {-1}, {1, 0}, {4294967296}, {1, 4294967296}, {1, 1}, {1, 2, 1}, {1, 2, 3, 4, 5, 6, 7, 8, 9}, {math.MinInt}, {math.MaxInt}} {
		eachLinkChange(t, refusedSetup,
			func(s *impl.LinkSetup) { s.Versions = list },
			func(s *impl.LinkSetup) { s.ServerVersions = list },
			func(s *impl.LinkSetup) { s.Versions, s.ServerVersions = list, list },
		)
	}
	for _, list := range [][]int{{1}, {4294967295}, {1, 4294967295}, {8, 7, 6, 5, 4, 3, 2, 1}} {
		eachLinkChange(t, takenSetup, func(s *impl.LinkSetup) { s.Versions, s.ServerVersions = list, list })
	}
}

func TestLinkNamesOfASetup(t *testing.T) {
	long := strings.Repeat("n", 17)
	for _, list := range [][]string{nil, {}, {""}, {"b", ""}, {"b", "b"}, {"b", "c", "b"}, {"a", "b", "c", "d", "e"}, {long}, {"b", long}} {
		eachLinkChange(t, refusedSetup,
			func(s *impl.LinkSetup) { s.Names = list },
			func(s *impl.LinkSetup) { s.ServerNames = list },
			func(s *impl.LinkSetup) { s.Names, s.ServerNames = list, list },
		)
	}
	for _, list := range [][]string{{"b"}, {long[1:]}, {"d", "c", "b", "a"}, {"\x00", "\xff"}} {
		eachLinkChange(t, takenSetup, func(s *impl.LinkSetup) { s.Names, s.ServerNames = list, list })
	}
}

// paramsIn are those of the client and of the server.
func paramsIn(s *impl.LinkSetup) []*impl.Params { return []*impl.Params{&s.Client, &s.Server} }

func TestLinkParamsOfASetup(t *testing.T) {
	numbers := []struct {
		field       func(p *impl.Params) *int
		least, most int
	}{
		{func(p *impl.Params) *int { return &p.Idle }, 0, maxTime},
		{func(p *impl.Params) *int { return &p.Size }, 1200, 2000},
		{func(p *impl.Params) *int { return &p.ConnWindow }, 1, 16384},
		{func(p *impl.Params) *int { return &p.StreamWindow }, 1, 16384},
		{func(p *impl.Params) *int { return &p.TwoWay }, 0, 64},
		{func(p *impl.Params) *int { return &p.OneWay }, 0, 64},
		{func(p *impl.Params) *int { return &p.AckDelay }, 0, 1000000},
		{func(p *impl.Params) *int { return &p.Ids }, 2, 16},
		{func(p *impl.Params) *int { return &p.Datagram }, 0, 1500},
	}
	for i := range 2 {
		for _, n := range numbers {
			set := func(v int) func(s *impl.LinkSetup) {
				return func(s *impl.LinkSetup) { *n.field(paramsIn(s)[i]) = v }
			}
			eachLinkChange(t, takenSetup, set(n.least), set(n.least+1), set(n.most))
			eachLinkChange(t, refusedSetup, set(n.least-1), set(n.most+1), set(-1), set(math.MinInt), set(math.MaxInt))
		}
		eachLinkChange(t, takenSetup, func(s *impl.LinkSetup) { paramsIn(s)[i].NoMove = true })
		for _, b := range [][]byte{{1}, []byte("12345678"), []byte("123456789")} {
			eachLinkChange(t, refusedSetup,
				func(s *impl.LinkSetup) { paramsIn(s)[i].Origin = b },
				func(s *impl.LinkSetup) { paramsIn(s)[i].Token = b },
				func(s *impl.LinkSetup) { paramsIn(s)[i].First = b },
			)
		}
		empty := []byte{}
		eachLinkChange(t, takenSetup, func(s *impl.LinkSetup) {
			p := paramsIn(s)[i]
			p.Origin, p.Token, p.First = empty, empty, empty
		})
	}
}

func TestLinkRules(t *testing.T) {
	for _, cc := range []int{0, -1, 3, 4, math.MinInt, math.MaxInt} {
		eachLinkChange(t, refusedSetup, func(s *impl.LinkSetup) { s.Cc = cc })
	}
	eachLinkChange(t, takenSetup, func(s *impl.LinkSetup) { s.Cc = 1 }, func(s *impl.LinkSetup) { s.Cc = 2 }, func(s *impl.LinkSetup) { s.Retry = true })
}

// linkStates are runs that bring the ends into states: those of client and server stand beside each.
func linkStates() []struct {
	ops    []impl.LinkOp
	states [2]int
} {
	return []struct {
		ops    []impl.LinkOp
		states [2]int
	}{
		{nil, [2]int{0, 0}},
		{[]impl.LinkOp{linkDeliver(0)}, [2]int{0, 0}},
		{linkEach(linkDeliver, 0, 1, 2), [2]int{1, 0}},
		{[]impl.LinkOp{linkCalm(1)}, [2]int{1, 1}},
		{[]impl.LinkOp{linkClose(0, 3)}, [2]int{2, 0}},
		{[]impl.LinkOp{linkClose(1, 3)}, [2]int{0, 2}},
		{[]impl.LinkOp{linkDeliver(0), linkClose(1, 3)}, [2]int{0, 2}},
		{append(linkEach(linkDeliver, 0, 1, 2), linkClose(1, 3)), [2]int{1, 2}},
		{append(linkEach(linkDeliver, 0, 1, 2), linkClose(0, 3)), [2]int{2, 0}},
		{[]impl.LinkOp{linkCalm(1), linkClose(0, 3)}, [2]int{2, 1}},
		{[]impl.LinkOp{linkCalm(1), linkClose(1, 3)}, [2]int{1, 2}},
		{[]impl.LinkOp{linkCalm(1), linkClose(1, 3), linkCalm(1)}, [2]int{2, 2}},
	}
}

// The code of an operation with a number and a stream that are right, where the states alone tell it.
func codeByState(kind, side int, states [2]int) int {
	switch {
	case !inRange(kind, 1, 13), !inRange(side, 0, 1):
		return impl.ErrBad
	case slices.Contains([]int{4, 5, 6, 12, 13}, kind):
		return impl.OK
	case kind == 10:
		return impl.ErrState * side
	case kind == 9:
		return impl.ErrState * way(states[side] == 2)
	}
	return impl.ErrState * way(states[side] != 1)
}

// streamed opens streams on both sides, if they are open: 0 and 1 then have come to both.
func streamed(states [2]int) []impl.LinkOp {
	if states != [2]int{1, 1} {
		return nil
	}
	return []impl.LinkOp{linkOpen(0), linkWrite(0, 0, "to the server"), linkOpen(1), linkWrite(1, 1, "to the client"), linkCalm(1)}
}

func TestLinkEachKindInEachState(t *testing.T) {
	for _, state := range linkStates() {
		ahead := slices.Concat(state.ops, streamed(state.states))
		if got := takesLink(t, plainLink(), ahead); got.Client.State != state.states[0] || got.Server.State != state.states[1] {
			t.Fatalf("states %d and %d, want %v", got.Client.State, got.Server.State, state.states)
		}
		for kind := -1; kind <= 15; kind++ {
			for side := -1; side <= 2; side++ {
				op := impl.LinkOp{Kind: kind, Side: side, Id: way(side == 1), N: 0, Data: []byte("data")}
				if kind == 3 || kind == 12 {
					op.N = 1
				}
				got := takesLink(t, plainLink(), slices.Concat(ahead, []impl.LinkOp{op, op, linkCalm(9)}))
				want := codeByState(kind, side, state.states)
				// A client that is open ahead of the server has opened no stream.
				if state.states != [2]int{1, 1} && state.states[max(0, min(side, 1))] == 1 && slices.Contains([]int{2, 3, 7, 8}, kind) && want == impl.OK {
					want = impl.ErrState
				}
				if obs := got.Obs[len(ahead)]; obs.Code != want {
					t.Errorf("%s in states %v: code %d, want %d", toldLinkOp(op), state.states, obs.Code, want)
				}
			}
		}
	}
}

func TestLinkOtherKindsAndSides(t *testing.T) {
	for _, v := range oddInts() {
		if inRange(v, 1, 13) {
			continue
		}
		for side := range 2 {
			wantCodes(t, plainLink(), []impl.LinkOp{{Kind: v, Side: side, N: 1}, linkDeliver(0), {Kind: v, Side: side, N: 1}}, 1, 0, 1)
		}
		ops, codes := []impl.LinkOp{linkCalm(1)}, []int{0}
		for kind := 1; kind <= 13 && !inRange(v, 0, 1); kind++ {
			ops, codes = append(ops, impl.LinkOp{Kind: kind, Side: v, N: 1}), append(codes, 1)
		}
		wantCodes(t, plainLink(), ops, codes...)
	}
}

func TestLinkTicks(t *testing.T) {
	for _, n := range []int{-1, 100000001, math.MinInt, math.MaxInt} {
		got := wantCodes(t, plainLink(), []impl.LinkOp{linkTick(n), linkCalm(1), linkTick(5), linkTick(n)}, 1, 0, 0, 1)
		if got.Obs[0].Time != 0 || got.Obs[3].Time != 5 {
			t.Errorf("%+v", got.Obs)
		}
	}
	got := wantCodes(t, plainLink(), []impl.LinkOp{linkTick(0), linkTick(1), linkCalm(1), linkTick(100000000), linkTick(0)}, 0, 0, 0, 0, 0)
	for i, want := range []int{0, 1, 1, 100000001, 100000001} {
		if got.Obs[i].Time != want {
			t.Errorf("operation %d ends at %d, want %d", i, got.Obs[i].Time, want)
		}
	}
}

// toTheEnd brings the time near its greatest, by a round trip of which the timers double to just below it: 3 times it, 20 times doubled.
func toTheEnd(trip int) []impl.LinkOp {
	return []impl.LinkOp{
		linkCalm(1), linkOpen(0), linkWrite(0, 0, "a"), linkTick(trip), linkDeliver(8), linkDeliver(9),
		linkClose(1, 0), linkLose(), linkWrite(0, 0, "b"), linkCalm(60),
	}
}

func TestLinkTheGreatestTime(t *testing.T) {
	trip := 317800
	ops := append(toTheEnd(trip), linkTick(100000000), linkTick(100000000), linkTick(100000000), linkTick(100000000), linkTick(0), linkWrite(0, 0, "c"), linkCalm(60), linkTick(100000000), linkRead(0, 0, 1), linkUpdate(0), linkClose(0, 5))
	got := takesLink(t, plainLink(), ops)
	end := trip + 3*trip*(1<<20-1)
	if calm := got.Obs[9]; calm.Time != end || calm.Sent != 20 {
		t.Errorf("the calm ends at %d behind %d packets, want %d", calm.Time, calm.Sent, end)
	}
	for i, want := range []int{end + 100000000, end + 200000000, maxTime, maxTime, maxTime, maxTime, maxTime, maxTime, maxTime, maxTime, maxTime} {
		if obs := got.Obs[10+i]; obs.Time != want || obs.Code != impl.OK {
			t.Errorf("operation %d: %+v, want the time %d", 10+i, obs, want)
		}
	}
	// A timer that is at the greatest time goes off, one behind it doesn't.
	trip = 317890
	wait := maxTime - trip - 3*trip*(1<<20-1)
	for _, c := range []struct{ wait, packets int }{{wait - 1, 20}, {wait, 20}, {wait + 1, 19}} {
		ops := slices.Insert(toTheEnd(trip), 8, linkTick(c.wait))
		got := takesLink(t, plainLink(), append(ops, linkTick(100000000)))
		if calm := got.Obs[10]; calm.Sent != c.packets || calm.Time > maxTime {
			t.Errorf("behind %d: %+v, want %d packets", c.wait, calm, c.packets)
		}
	}
}

// A timer of an end that is as long as it may be stays above the greatest time.
func TestLinkTheLongestSilence(t *testing.T) {
	s := plainLink()
	s.Client.Idle, s.Server.Idle = maxTime, maxTime
	got := takesLink(t, s, append(toTheEnd(317800), slices.Repeat([]impl.LinkOp{linkTick(100000000)}, 5)...))
	if got.Client.State != 1 || got.Obs[14].Time != maxTime {
		t.Errorf("%+v", got.Client)
	}
	// One that nobody has spoken to is silent since 0.
	s.Server.Idle = 0
	ops := []impl.LinkOp{linkClose(1, 0), linkCalm(60)}
	if got := takesLink(t, s, ops); got.Obs[1].Time != 999000*(1<<19-1) || got.Obs[1].Sent != 19 {
		t.Errorf("%+v", got.Obs)
	}
}

func TestLinkCalms(t *testing.T) {
	for _, n := range []int{0, -1, 61, math.MinInt, math.MaxInt} {
		got := wantCodes(t, plainLink(), []impl.LinkOp{linkCalm(n), linkCalm(1), linkCalm(n)}, 1, 0, 1)
		if got.Obs[0].Sent != 0 || got.Obs[0].State0 != 0 {
			t.Errorf("%+v", got.Obs[0])
		}
	}
	for _, n := range []int{1, 2, 59, 60} {
		wantCodes(t, plainLink(), []impl.LinkOp{linkCalm(n), linkCalm(n)}, 0, 0)
		// So many timers of one who hears nothing.
		got := wantCodes(t, plainLink(), []impl.LinkOp{linkClose(1, 0), linkCalm(n)}, 0, 0)
		if sent := got.Obs[1].Sent; sent != min(n, 19) {
			t.Errorf("%d packets in a calm of %d", sent, n)
		}
	}
}

func TestLinkNumbersToBeTold(t *testing.T) {
	for _, state := range []struct {
		n, code int
	}{{0, 0}, {1, 0}, {63, 0}, {64, 0}, {maxVar, 0}, {-1, 1}, {maxVar + 1, 1}, {math.MinInt, 1}, {math.MaxInt, 1}} {
		for side := range 2 {
			id := side
			ahead := slices.Concat([]impl.LinkOp{linkCalm(1)}, streamed([2]int{1, 1}))
			zeros := make([]int, len(ahead))
			for _, op := range []impl.LinkOp{linkReset(side, id, state.n), linkStop(side, id, state.n), linkClose(side, state.n)} {
				wantCodes(t, plainLink(), slices.Concat(ahead, []impl.LinkOp{op, linkCalm(9)}), slices.Concat(zeros, []int{state.code, 0})...)
			}
			// Ahead of the meeting, and within it.
			wantCodes(t, plainLink(), []impl.LinkOp{linkClose(side, state.n), linkCalm(9)}, state.code, 0)
			wantCodes(t, plainLink(), []impl.LinkOp{linkDeliver(0), linkClose(side, state.n), linkCalm(9)}, 0, state.code, 0)
			// Who isn't open hears of that first; who is closed too.
			wantCodes(t, plainLink(), []impl.LinkOp{linkReset(side, id, state.n), linkStop(side, id, state.n)}, 7, 7)
			wantCodes(t, plainLink(), []impl.LinkOp{linkClose(side, 0), linkClose(side, state.n), linkReset(side, id, state.n)}, 0, 7, 7)
			// A number that is none is told ahead of a stream that is none.
			wantCodes(t, plainLink(), []impl.LinkOp{linkCalm(1), linkReset(side, 9, state.n), linkStop(side, 9, state.n)}, 0, 7-6*state.code, 7-6*state.code)
		}
	}
}

func TestLinkDatagramsThatThereAreNot(t *testing.T) {
	for _, n := range []int{-1, 1, 2, 600, math.MinInt, math.MaxInt} {
		wantCodes(t, plainLink(), []impl.LinkOp{linkDeliver(n), linkSpoil(n, 0, 1)}, 1, 1)
	}
	for _, at := range []int{-1, 1115, 1116, math.MinInt, math.MaxInt} {
		got := wantCodes(t, plainLink(), []impl.LinkOp{linkSpoil(0, at, 1), linkDeliver(0)}, 1, 0)
		if got.Obs[1].Sent != 2 {
			t.Errorf("%+v", got.Obs)
		}
	}
	wantCodes(t, plainLink(), []impl.LinkOp{linkSpoil(0, 0, 0), linkSpoil(0, 1114, 0), linkSpoil(9, -1, 0), linkDeliver(3), linkDeliver(4)}, 0, 0, 1, 1, 1)
}

// A byte is changed by the rest of Id divided by 256: multiples of it change nothing, negative ones neither.
func TestLinkSpoilsByTheRest(t *testing.T) {
	for _, with := range []int{0, 256, -256, 1 << 40, math.MinInt} {
		got := wantCodes(t, plainLink(), []impl.LinkOp{linkSpoil(0, 500, with), linkDeliver(0)}, 0, 0)
		// The copy was taken as the packet; when that comes itself it is known.
		if got.Obs[0].Sent != 2 || got.Obs[1].Sent != 0 || got.Server.Came != 1115 {
			t.Errorf("with %d: %+v", with, got)
		}
		// It has not come by that: a calm brings it once more.
		if got := takesLink(t, plainLink(), []impl.LinkOp{linkSpoil(0, 500, with), linkCalm(1)}); !bothOpen(got) {
			t.Errorf("with %d: %+v", with, got)
		}
	}
	for _, with := range []int{1, 255, 257, -1, -255, math.MaxInt, math.MinInt + 1} {
		got := wantCodes(t, plainLink(), []impl.LinkOp{linkSpoil(0, 500, with), linkDeliver(0)}, 0, 0)
		if got.Obs[0].Sent != 0 || got.Obs[1].Sent != 2 {
			t.Errorf("with %d: %+v", with, got)
		}
	}
	// The same change: version 1 becomes 2 by both, which the server answers.
	for _, with := range []int{3, -253, 259} {
		if got := takesLink(t, plainLink(), []impl.LinkOp{linkSpoil(0, 4, with)}); got.Obs[0].Sent != 1 {
			t.Errorf("with %d: %+v", with, got)
		}
	}
}

// 119 of them, and where the packets came from.
func TestLinkRebinds(t *testing.T) {
	ops := slices.Repeat([]impl.LinkOp{linkRebind()}, 118)
	got := takesLink(t, plainLink(), append(ops, linkTick(999000), linkDeliver(1)))
	if got.Server.Addr != 118 || got.Server.Came != 1115 {
		t.Errorf("%+v", got.Server)
	}
	wantCodes(t, plainLink(), []impl.LinkOp{{Kind: 10, Side: 1}, linkRebind(), linkClose(0, 0), linkRebind(), {Kind: 10, Side: 1}}, 7, 0, 0, 0, 7)
	// The first packet was sent from address 0.
	if got := takesLink(t, plainLink(), []impl.LinkOp{linkRebind(), linkDeliver(0)}); got.Server.Addr != 0 || got.Server.Came != 1115 || got.Client.Addr != 0 {
		t.Errorf("%+v", got)
	}
}

func TestLinkReadsOfNoBytes(t *testing.T) {
	ahead := slices.Concat([]impl.LinkOp{linkCalm(1)}, streamed([2]int{1, 1}))
	for _, n := range []int{0, -1, math.MinInt} {
		for side := range 2 {
			for id := range 2 {
				got := takesLink(t, plainLink(), slices.Concat(ahead, []impl.LinkOp{linkRead(side, id, n)}))
				if obs := got.Obs[len(ahead)]; obs.Code != impl.ErrBad || len(obs.Data) != 0 || obs.Sent != 0 {
					t.Errorf("%+v", obs)
				}
			}
		}
	}
	got := takesLink(t, plainLink(), slices.Concat(ahead, []impl.LinkOp{linkRead(0, 1, math.MaxInt), linkRead(1, 0, 1)}))
	if a, b := got.Obs[len(ahead)], got.Obs[len(ahead)+1]; string(a.Data) != "to the client" || string(b.Data) != "t" {
		t.Errorf("%+v %+v", a, b)
	}
}

// Two faults at once: the chapter's first one is told.
func TestLinkOrderOfCodes(t *testing.T) {
	for _, op := range []impl.LinkOp{
		{Kind: 99, Side: 9}, {Kind: 4, Side: 2, N: 0}, {Kind: 10, Side: -1}, {Kind: 9, Side: 7, N: -1}, {Kind: 13, Side: 2},
	} {
		wantCodes(t, plainLink(), []impl.LinkOp{op, linkCalm(1), op}, 1, 0, 1)
	}
	// Who isn't open hears of that ahead of all that is wrong with the number, the stream or the data.
	for _, op := range []impl.LinkOp{linkRead(0, 9, 0), linkReset(0, 9, -1), linkStop(1, 9, -1), linkWrite(1, 9, strings.Repeat("x", 70000)), linkOpen(0), linkUpdate(1)} {
		wantCodes(t, plainLink(), []impl.LinkOp{op}, 7)
		wantCodes(t, plainLink(), []impl.LinkOp{linkCalm(1), linkClose(op.Side, 0), op}, 0, 0, 7)
	}
	s := plainLink()
	s.Client.TwoWay, s.Server.TwoWay = 0, 0
	wantCodes(t, s, []impl.LinkOp{linkOpen(0), linkCalm(1), linkOpen(0), linkRead(0, 0, 0), linkWrite(0, 0, strings.Repeat("x", 70000))}, 7, 0, 9, 7, 7)
	wantCodes(t, plainLink(), []impl.LinkOp{linkCalm(1), linkClose(0, 0), linkClose(0, -1)}, 0, 0, 7)
	wantCodes(t, plainLink(), []impl.LinkOp{{Kind: 10, Side: 1}, linkClose(0, 0), {Kind: 10, Side: 1}}, 7, 0, 7)
}

// What stands beside a code: nothing but Sent, Time and the states.
func TestLinkBesideACode(t *testing.T) {
	ahead := slices.Concat([]impl.LinkOp{linkCalm(1)}, streamed([2]int{1, 1}), []impl.LinkOp{linkTick(77), linkReset(0, 0, 5), linkCalm(3), linkRead(1, 0, 9)})
	for _, op := range []impl.LinkOp{
		{Kind: 99, Id: 4, N: 5, Data: []byte("x"), Flag: true}, {Kind: 2, Side: 9, Id: 4, N: 5, Data: []byte("x"), Flag: true},
		linkRead(1, 0, 9), linkRead(1, 0, 0), linkRead(0, 2, 9), linkWrite(0, 0, "more"), linkReset(0, 0, 4), linkTick(-1), linkCalm(61), linkDeliver(-1), {Kind: 10, Side: 1},
	} {
		got := takesLink(t, plainLink(), append(slices.Clone(ahead), op))
		obs := got.Obs[len(ahead)]
		if obs.Code == impl.OK || obs.Id != 0 || len(obs.Data) != 0 || obs.End || obs.Time < 77 || obs.State0 != 1 || obs.State1 != 1 {
			t.Errorf("%s: %+v", toldLinkOp(op), obs)
		}
	}
}
