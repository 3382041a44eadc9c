package tests

import (
	"fmt"
	"math"
	"slices"
	"strings"
	"testing"

	"loop.example/g00012/impl"
)

// turnsOf tells for each turn, until none is left, the place of the request that got a piece: 0 for the first one.
func turnsOf(t *testing.T, s impl.TalkSetup, begin []impl.TalkOp, asks []impl.TalkOp) []int {
	t.Helper()
	var order []int
	last := writtenBy(t, s, begin, asks)
	for ops := slices.Clone(begin); ; {
		ops = append(ops, talkTurn())
		out, _ := checkTalkAsked(t, s, ops)
		if out.Obs[len(ops)-1].Code != impl.OK {
			return order
		}
		now := writtenBy(t, s, ops, asks)
		for i := range asks {
			if now[i] > last[i] {
				order = append(order, i)
			}
		}
		last = now
	}
}

// writtenBy tells how many bytes of each request's content were written: those that its Reply does not lack.
// They are found by writing others in their place, until all is as long as it should be.
func writtenBy(t *testing.T, s impl.TalkSetup, ops, asks []impl.TalkOp) []int {
	t.Helper()
	sent := make([]int, len(asks))
	for i, ask := range asks {
		sent[i] = -1
		for left := range len(ask.Body) + 1 {
			more := append(slices.Clone(ops), talkRawEnd(1, 4*i, join([]byte{0, byte(left)}, zeroes(left))...))
			out := impl.TalkRun(s, append(more, append(talkMoves(1, 7), talkMoves(1, 4*i)...)...))
			if out.Replies[i].Done || out.Obs[len(ops)].Code == impl.ErrBad {
				sent[i] = len(ask.Body) - left
				break
			}
		}
		if sent[i] < 0 {
			t.Errorf("no Reply to %d, of %s", 4*i, toldTalk(s, ops))
		}
	}
	return sent
}

// doneBehind tells behind how many turns each Reply is Done, all that was written coming behind each turn.
func doneBehind(t *testing.T, s impl.TalkSetup, begin []impl.TalkOp, count int) []int {
	t.Helper()
	ops := slices.Clone(begin)
	behind := make([]int, count)
	for n := 1; slices.Contains(behind, 0); n++ {
		ops = append(ops, talkTurn())
		brought := slices.Clone(ops)
		for i := range count {
			brought = append(brought, talkMoves(1, 4*i)...)
		}
		out, _ := checkTalkAsked(t, s, append(brought, talkMoves(1, 7)...))
		for i, r := range out.Replies {
			if r.Done && behind[i] == 0 {
				behind[i] = n
			}
		}
		if n > 100 {
			t.Fatalf("%v behind %d turns, of %s", behind, n, toldTalk(s, begin))
		}
	}
	return behind
}

func arrived(asks ...impl.TalkOp) []impl.TalkOp {
	ops := slices.Clone(asks)
	for i := range asks {
		ops = append(ops, talkMoves(0, 4*i)...)
	}
	return ops
}

func TestP22TurnsByUrgency(t *testing.T) {
	s := talkWith(0, 0, 2)
	for _, c := range []struct {
		priorities []string
		order      []int
	}{
		{[]string{""}, []int{0, 0, 0}},
		{[]string{"", ""}, []int{0, 0, 0, 1, 1, 1}},
		{[]string{"u=3", ""}, []int{0, 0, 0, 1, 1, 1}}, {[]string{"u=4", ""}, []int{1, 1, 1, 0, 0, 0}}, {[]string{"", "u=2"}, []int{1, 1, 1, 0, 0, 0}}, {[]string{"", "u=4"}, []int{0, 0, 0, 1, 1, 1}},
		{[]string{"u=7", "u=6", "u=5"}, []int{2, 2, 2, 1, 1, 1, 0, 0, 0}}, {[]string{"u=0", "u=7", "u=1"}, []int{0, 0, 0, 2, 2, 2, 1, 1, 1}},
		{[]string{"i", "i"}, []int{0, 1, 0, 1, 0, 1}}, {[]string{"i", "i", "i"}, []int{0, 1, 2, 0, 1, 2, 0, 1, 2}},
		{[]string{"i", "", "i"}, []int{1, 1, 1, 0, 2, 0, 2, 0, 2}}, {[]string{"i", "u=4", "i"}, []int{0, 2, 0, 2, 0, 2, 1, 1, 1}}, {[]string{"u=4, i", "u=3, i", "u=4"}, []int{1, 1, 1, 2, 2, 2, 0, 0, 0}},
		{[]string{"u=1", "u=1, i", "u=0, i", "u=0, i"}, []int{2, 3, 2, 3, 2, 3, 0, 0, 0, 1, 1, 1}},
		{[]string{"u=9", "nonsense", "i=?0"}, []int{0, 0, 0, 1, 1, 1, 2, 2, 2}},
	} {
		for _, by := range []string{"field", "frame ahead", "frame behind", "both"} {
			var asks, told []impl.TalkOp
			for i, text := range c.priorities {
				ask := talkRoot("123456")
				switch by {
				case "field":
					ask = talkRoot("123456", "priority", text)
				case "both":
					// What a frame says counts, not the field.
					ask = talkRoot("123456", "priority", "u=0")
					fallthrough
				default:
					told = append(told, talkPrior(4*i, text))
				}
				asks = append(asks, ask)
			}
			var begin []impl.TalkOp
			switch by {
			case "field":
				begin = arrived(asks...)
			case "frame behind":
				begin = slices.Concat(arrived(asks...), told, talkMoves(0, 2))
			default:
				begin = slices.Concat(asks, told, talkMoves(0, 2), arrived(asks...)[len(asks):])
			}
			if got := turnsOf(t, s, begin, asks); !slices.Equal(got, c.order) {
				t.Errorf("by %s of %q: %v, want %v", by, c.priorities, got, c.order)
			}
			var last []int
			for i := range asks {
				last = append(last, len(c.order)-slices.Index(slices.Collect(backward(c.order)), i))
			}
			if got := doneBehind(t, s, begin, len(asks)); !slices.Equal(got, last) {
				t.Errorf("by %s of %q: done behind %v turns, want %v", by, c.priorities, got, last)
			}
		}
	}
}

func backward(list []int) func(yield func(int) bool) {
	return func(yield func(int) bool) {
		for _, v := range slices.Backward(list) {
			if !yield(v) {
				return
			}
		}
	}
}

// A priority that comes while the content is being written counts from then on; how much was written stays known.
func TestP22APriorityAmidTheContent(t *testing.T) {
	s := talkWith(0, 0, 1)
	asks := []impl.TalkOp{talkRoot("abcd"), talkRoot("efgh"), talkRoot("ijkl", "priority", "i")}
	begin := append(arrived(asks...), talkMoves(0, 2)...)
	for _, c := range []struct {
		ahead []impl.TalkOp
		order []int
	}{
		{[]impl.TalkOp{talkTurn(), talkPrior(4, "u=1"), talkMove(0, 2, 99)}, []int{1, 1, 1, 1, 0, 0, 0, 2, 2, 2, 2}},
		// It has not come yet.
		{[]impl.TalkOp{talkTurn(), talkPrior(4, "u=1"), talkMove(0, 2, 6)}, []int{1, 1, 1, 1, 0, 0, 0, 2, 2, 2, 2}},
		{[]impl.TalkOp{talkTurn(), talkPrior(4, "u=1"), talkMove(0, 2, 5)}, []int{0, 0, 0, 1, 1, 1, 1, 2, 2, 2, 2}},
		{[]impl.TalkOp{talkTurn(), talkPrior(4, "u=1")}, []int{0, 0, 0, 1, 1, 1, 1, 2, 2, 2, 2}},
		// In turns with another one that has got nothing so far.
		{[]impl.TalkOp{talkTurn(), talkTurn(), talkPrior(0, "i"), talkPrior(4, "u=7"), talkMove(0, 2, 99)}, []int{2, 2, 0, 2, 0, 2, 1, 1, 1, 1}},
		{[]impl.TalkOp{talkTurn(), talkPrior(0, "i"), talkPrior(4, "i"), talkMove(0, 2, 99)}, []int{1, 2, 0, 1, 2, 0, 1, 2, 0, 1, 2}},
		// Of several the last one counts, and of one that says nothing urgency 3.
		{[]impl.TalkOp{talkTurn(), talkPrior(8, "u=1"), talkPrior(8, "u=7"), talkMove(0, 2, 99)}, []int{0, 0, 0, 1, 1, 1, 1, 2, 2, 2, 2}},
		{[]impl.TalkOp{talkPrior(4, "u=0"), talkMove(0, 2, 99), talkTurn(), talkPrior(4, ""), talkMove(0, 2, 99)}, []int{0, 0, 0, 0, 1, 1, 1, 2, 2, 2, 2}},
		// One for a content that is written already changes nothing for the others.
		{[]impl.TalkOp{talkTurn(), talkTurn(), talkTurn(), talkTurn(), talkPrior(0, "u=0"), talkMove(0, 2, 99)}, []int{1, 1, 1, 1, 2, 2, 2, 2}},
	} {
		ops := slices.Concat(begin, c.ahead)
		if got := turnsOf(t, s, ops, asks); !slices.Equal(got, c.order) {
			t.Errorf("%v, want %v, of %s", got, c.order, toldTalk(s, ops))
		}
	}
}

func TestTalkTurnsWhereNoneWaits(t *testing.T) {
	s := talkWith(0, 0, 100)
	checkLast(t, s, impl.ErrState, talkTurn())
	checkLast(t, s, impl.ErrState, talkRoot("a"), talkTurn())
	checkLast(t, s, impl.ErrState, append(arrived(talkRoot("")), talkTurn())...)
	checkLast(t, s, impl.ErrState, append(arrived(talkAsk("DELETE", "/gone", "x")), talkTurn())...)
	checkLast(t, s, impl.ErrState, append(arrived(talkAsk("GET", "/404", "x")), talkTurn())...)
	checkLast(t, s, impl.ErrState, append(arrived(talkAsk("PUT", "/echo", "x")), talkTurn())...)
	checkLast(t, s, impl.OK, append(arrived(talkRoot("a")), talkTurn())...)
	checkLast(t, s, impl.ErrState, append(arrived(talkRoot("a")), talkTurn(), talkTurn())...)
	checkLast(t, s, impl.ErrState, append(arrived(talkRoot("a")), talkAll(), talkTurn())...)
	// Of what has no content the end comes at once.
	checkReplies(t, s, append(arrived(talkRoot(""), talkAsk("DELETE", "/gone", "x"), talkAsk("GET", "/404", "x")), talkMoves(1, 0, 4, 8)...), done(0, 200, ""), done(4, 204, ""), done(8, 404, ""))
}

// A request's field counts where no frame came, the first of several such fields, and as it stands in a section of the table too.
func TestP22PrioritiesOfFields(t *testing.T) {
	s := talkWith(400, 4, 1)
	first := talkRoot("ab")
	first.Request.Fields = pairsOf("priority", "u=5", "priority", "u=1")
	asks := []impl.TalkOp{first, talkRoot("cd", "priority", "u=4"), talkRoot("ef", "x-priority", "u=0"), talkRoot("gh", "priority", "u=4")}
	begin := append([]impl.TalkOp{talkAll()}, arrived(asks...)...)
	begin = append(begin, talkMoves(0, 6)...)
	if got, want := turnsOf(t, s, begin, asks), []int{2, 2, 1, 1, 3, 3, 0, 0}; !slices.Equal(got, want) {
		t.Errorf("%v, want %v", got, want)
	}
}

func TestTalkPriors(t *testing.T) {
	s := plainTalk()
	begin := []impl.TalkOp{talkRoot("ab"), talkRoot("cd")}
	for _, id := range append(oddInts(), 1, 2, 3, 5, 8, -4) {
		code := impl.ErrBad
		if id == 0 || id == 4 {
			code = impl.OK
		}
		checkLast(t, s, code, append(slices.Clone(begin), talkPrior(id, "u=1"))...)
		checkLast(t, s, impl.ErrBad, talkPrior(id, "u=1"))
	}
	for _, n := range []int{0, 1, 1023, 1024, 1025, 65537} {
		code := impl.OK
		if n > 1024 {
			code = impl.ErrBad
		}
		text := strings.Repeat("x", n)
		checkLast(t, s, code, append(slices.Clone(begin), talkPrior(4, text))...)
		checkReplies(t, s, append(slices.Clone(begin), talkPrior(4, text), talkAll()), done(0, 200, "ab"), done(4, 200, "cd"))
		if n >= 6 && n <= 1024 {
			ops := append(slices.Clone(begin), talkPrior(4, text[:n-5]+",,u=0"), talkAll())
			checkReplies(t, s, ops, done(0, 200, "ab"), done(4, 200, "cd"))
		}
	}
	// Of a request that was given up, is done, or refused: it was asked.
	checkLast(t, s, impl.OK, append(slices.Clone(begin), talkDrop(4), talkPrior(4, "i"))...)
	checkLast(t, s, impl.OK, append(slices.Clone(begin), talkAll(), talkPrior(4, "i"))...)
	checkLast(t, s, impl.OK, append(slices.Clone(begin), talkAway(), talkAll(), talkPrior(4, "i"))...)
	// A frame of many bytes comes whole or not at all.
	long := "u=1," + strings.Repeat(" ", 1020)
	asks := []impl.TalkOp{talkRoot("ab"), talkRoot("cd")}
	one := talkWith(0, 0, 1)
	prior := slices.Concat(arrived(asks...), []impl.TalkOp{talkMove(0, 2, 99), talkPrior(4, long)})
	if got := turnsOf(t, one, append(slices.Clone(prior), talkMove(0, 2, 1+2+1+1024)), asks); !slices.Equal(got, []int{1, 1, 0, 0}) {
		t.Errorf("%v", got)
	}
	if got := turnsOf(t, one, append(slices.Clone(prior), talkMove(0, 2, 1+2+1024)), asks); !slices.Equal(got, []int{0, 0, 1, 1}) {
		t.Errorf("%v", got)
	}
}

// Contents of drawn lengths and priorities are all written to their ends, and each turn goes to the one that NextStream chooses.
func TestP22DrawnContents(t *testing.T) {
	more := numbers(220)
	for range 60 {
		s := talkWith(more.below(300), more.below(4), 1+more.below(9))
		var asks []impl.TalkOp
		var want []impl.Reply
		for i := range 1 + more.below(8) {
			body := strings.Repeat(string(rune('a'+i)), more.below(40))
			ask := talkRoot(body)
			if more.below(2) == 0 {
				ask = talkRoot(body, "priority", impl.PriorityText(more.below(8), more.below(2) == 0))
			}
			asks = append(asks, ask)
			want = append(want, done(4*i, 200, body))
		}
		ops := arrived(asks...)
		for i := range asks {
			if more.below(3) == 0 {
				ops = append(ops, talkPrior(4*i, impl.PriorityText(more.below(8), more.below(2) == 0)), talkMove(0, 2, 1+more.below(20)))
			}
			if more.below(2) == 0 {
				ops = append(ops, talkTurn())
			}
		}
		var left []impl.TalkOp
		for range 40 {
			left = append(left, talkTurn(), talkMove(0, 2, 1+more.below(9)))
		}
		checkTalkAsked(t, s, append(slices.Clone(ops), left...))
		checkReplies(t, s, append(ops, talkAll()), want...)
	}
}

func TestTalkDrops(t *testing.T) {
	s := talkWith(400, 2, 2)
	ask := talkRoot("a body", "x-a", "1")
	// Ahead of all bytes.
	checkReplies(t, s, []impl.TalkOp{ask, talkDrop(0), talkAll()}, failed(0, impl.ErrCancel))
	checkReplies(t, s, []impl.TalkOp{ask, ask, talkDrop(0), talkAll()}, failed(0, impl.ErrCancel), done(4, 200, "a body"))
	checkReplies(t, s, []impl.TalkOp{talkAll(), ask, ask, talkDrop(4), talkAll(), ask, talkAll()}, done(0, 200, "a body"), failed(4, impl.ErrCancel), done(8, 200, "a body"))
	// Amid them, both ways: the server answers nevertheless, and has to write its content ahead of others.
	for n := range 40 {
		ops := []impl.TalkOp{talkAll(), ask, ask}
		ops = append(ops, talkMoves(0, 0, 4, 6)...)
		ops = append(ops, talkTurn(), talkTurn(), talkTurn(), talkMove(1, 7, 1+n/4), talkMove(1, 0, 1+n), talkDrop(0))
		checkTalkEach(t, s, append(ops, talkAll(), ask, talkAll()))
		one := append([]impl.TalkOp{talkAll(), ask, ask, talkMove(0, 0, 1+n), talkDrop(0)}, talkMoves(0, 10)...)
		checkReplies(t, s, append(one, talkAll(), ask, talkAll()), failed(0, impl.ErrCancel), done(4, 200, "a body"), done(8, 200, "a body"))
	}
	dropped := append(arrived(ask, ask), talkDrop(0))
	dropped = append(dropped, talkMoves(0, 10)...)
	for n := range 7 {
		ops := slices.Concat(dropped, slices.Repeat([]impl.TalkOp{talkTurn()}, n), talkMoves(1, 4, 0))
		want := open(4)
		if n == 6 {
			want = done(4, 200, "a body")
		}
		checkReplies(t, s, ops, failed(0, impl.ErrCancel), want)
		checkLast(t, s, impl.ErrState, slices.Concat(dropped, slices.Repeat([]impl.TalkOp{talkTurn()}, 7))...)
	}
	// Behind a Reply that is Done or has a Code, twice, and of none.
	checkLast(t, s, impl.ErrState, ask, talkAll(), talkDrop(0))
	checkLast(t, s, impl.ErrState, ask, talkDrop(0), talkDrop(0))
	checkLast(t, s, impl.ErrState, ask, talkDrop(0), talkAll(), talkDrop(0))
	checkLast(t, s, impl.ErrState, ask, talkAway(), talkMove(1, 3, 99), talkDrop(0))
	checkReplies(t, s, []impl.TalkOp{ask, talkAll(), talkDrop(0), talkAll()}, done(0, 200, "a body"))
	checkLast(t, s, impl.ErrBad, talkDrop(0))
	for _, id := range append(oddInts(), 1, 2, 3, 5, 8, -4) {
		if id != 0 && id != 4 {
			checkLast(t, s, impl.ErrBad, ask, ask, talkDrop(id))
		}
	}
}

// A section that waits at the client is no longer one that waits when it was given up, and what stands behind it is not looked at.
func TestTalkDropsOfWhatWaits(t *testing.T) {
	s := talkWith(400, 1, 10)
	begin := append([]impl.TalkOp{talkAll()}, arrived(talkRoot("a"), talkRoot("bb"))[:2]...)
	begin = append(begin, talkMoves(0, 0)...)
	begin = append(begin, talkTurn())
	begin = append(begin, talkMoves(1, 0)...)
	_, met := talkAsked(s, append(slices.Clone(begin), talkDrop(0)))
	if met["gave up what waits"] != 1 {
		t.Fatalf("%v", met)
	}
	checkReplies(t, s, append(slices.Clone(begin), talkDrop(0), talkAll()), failed(0, impl.ErrCancel), done(4, 200, "bb"))
	// The server hears of it, and lets another one wait.
	ops := slices.Concat(begin, []impl.TalkOp{talkDrop(0)}, talkMoves(0, 10, 4), []impl.TalkOp{talkTurn()}, talkMoves(1, 4))
	checkReplies(t, s, ops, failed(0, impl.ErrCancel), open(4))
	checkReplies(t, s, append(ops, talkMoves(1, 7)...), failed(0, impl.ErrCancel), done(4, 200, "bb"))
	// It does not, and the other one refers to nothing.
	ops = slices.Concat(begin, []impl.TalkOp{talkDrop(0)}, talkMoves(0, 4), []impl.TalkOp{talkTurn()}, talkMoves(1, 4))
	checkReplies(t, s, ops, failed(0, impl.ErrCancel), done(4, 200, "bb"))
}

func TestTalkGoaways(t *testing.T) {
	s := talkWith(400, 2, 3)
	ask := talkRoot("body", "x-a", "1")
	ok := func(id int) impl.Reply { return done(id, 200, "body") }
	no := func(id int) impl.Reply { return failed(id, impl.ErrCancel) }
	for _, c := range []struct {
		ops     []impl.TalkOp
		replies []impl.Reply
	}{
		// With no request at all; with some of which nothing has come.
		{[]impl.TalkOp{talkAway(), talkAll()}, nil},
		{[]impl.TalkOp{talkAway(), ask, ask, talkAll()}, []impl.Reply{no(0), no(4)}},
		{[]impl.TalkOp{ask, ask, talkAway(), talkAll()}, []impl.Reply{no(0), no(4)}},
		{[]impl.TalkOp{ask, ask, talkAway(), talkMove(0, 0, 99), talkMove(0, 4, 99), talkAll()}, []impl.Reply{no(0), no(4)}},
		// With some come in part: a byte counts, and all of a lesser number with it.
		{[]impl.TalkOp{ask, ask, talkMove(0, 0, 1), talkAway(), talkAll()}, []impl.Reply{ok(0), no(4)}},
		{[]impl.TalkOp{ask, ask, ask, talkMove(0, 4, 1), talkAway(), ask, talkAll()}, []impl.Reply{ok(0), ok(4), no(8), no(12)}},
		{[]impl.TalkOp{ask, ask, ask, talkMove(0, 8, 99), talkMove(0, 0, 2), talkAway(), talkAll()}, []impl.Reply{ok(0), ok(4), ok(8)}},
		{[]impl.TalkOp{ask, talkAll(), ask, talkAway(), ask, talkAll()}, []impl.Reply{ok(0), no(4), no(8)}},
		// Behind it nothing more is asked.
		{[]impl.TalkOp{ask, talkAll(), talkAway(), talkMove(1, 3, 99), ask, talkAll(), ask}, []impl.Reply{ok(0)}},
		{[]impl.TalkOp{talkAway(), talkMove(1, 3, 2), ask, talkMove(1, 3, 99), ask}, []impl.Reply{no(0)}},
		// Given up ahead of it, and what is given up stays so.
		{[]impl.TalkOp{ask, ask, talkDrop(4), talkMove(0, 0, 1), talkAway(), talkAll()}, []impl.Reply{ok(0), no(4)}},
		{[]impl.TalkOp{ask, ask, talkDrop(0), talkMove(0, 4, 1), talkAway(), talkAll()}, []impl.Reply{no(0), ok(4)}},
		// The responses of those that came are written and read all the same.
		{[]impl.TalkOp{ask, ask, talkMove(0, 0, 99), talkAway(), talkMove(1, 3, 99), talkTurn(), talkTurn(), talkMove(1, 0, 99)}, []impl.Reply{ok(0), no(4)}},
	} {
		checkReplies(t, s, c.ops, c.replies...)
	}
	// A byte that came, and none: a move of nothing is none.
	checkReplies(t, s, []impl.TalkOp{ask, talkMove(0, 0, 0), talkAway(), talkAll()}, no(0))
	checkLast(t, s, impl.ErrState, talkAway(), talkAway())
	checkLast(t, s, impl.ErrState, talkAway(), talkAll(), ask, talkAway())
	checkLast(t, s, impl.ErrState, ask, talkAll(), talkAway(), talkAll(), talkAway())
	checkLast(t, s, impl.OK, ask, talkAll(), talkAway())
	// Instructions of requests that are not looked at count, and those of which the section is never read hold nobody up.
	for _, blocked := range []int{0, 1, 2, 8} {
		s := talkWith(120, blocked, 10)
		ops := []impl.TalkOp{talkAll(), talkRoot("1", "x-a", "1"), talkRoot("2", "x-a", "2"), talkRoot("3", "x-a", "3"), talkMove(0, 0, 1), talkAway(), talkAll()}
		checkReplies(t, s, ops, done(0, 200, "1"), no(4), no(8))
	}
}

// All sixteen, of which each one in turn is the last of which something has come.
func TestTalkGoawaysAtEachRequest(t *testing.T) {
	s := talkWith(4096, 3, 4)
	for at := range 17 {
		var ops []impl.TalkOp
		var want []impl.Reply
		for i := range 16 {
			body := fmt.Sprint("body ", i)
			ops = append(ops, talkRoot(body, "x-a", fmt.Sprint(i)))
			if i < at {
				want = append(want, done(4*i, 200, body))
			} else {
				want = append(want, failed(4*i, impl.ErrCancel))
			}
		}
		if at > 0 {
			ops = append(ops, talkMove(0, 4*(at-1), 1))
		}
		ops = append(ops, talkAway(), talkAll(), talkRoot(""))
		out, _ := checkTalkAsked(t, s, ops)
		if !slices.EqualFunc(out.Replies, want, sameReply) || out.Client != 0 || out.Server != 0 {
			t.Errorf("at %d: %s", at, toldTalkOut(out))
		}
		if code := out.Obs[len(ops)-1].Code; code != impl.ErrLimit {
			t.Errorf("at %d: %d", at, code)
		}
	}
}

// Numbers that matter nowhere.
func TestTalkNumbersThatAreNotLookedAt(t *testing.T) {
	s := plainTalk()
	for _, v := range []int{math.MinInt, -1, 1, 77, math.MaxInt} {
		ask := talkRoot("a")
		ask.Id, ask.N, ask.Text, ask.Side = v, v, "end", 1
		all := talkAll()
		all.Id, all.N, all.Text, all.Side, all.Body = v, v, "end", 1, []byte("body")
		turn, away := all, all
		turn.Kind, away.Kind = impl.TTurn, impl.TGoaway
		move := talkMove(0, 0, 99)
		move.Text, move.Body, move.Request = "end", []byte{1}, aRequest("get", "")
		checkReplies(t, s, []impl.TalkOp{ask, move, turn, away, all, ask}, done(0, 200, "a"))
		drop := talkDrop(0)
		drop.N, drop.Side, drop.Text, drop.Body = v, 1, "end", zeroes(9000)
		prior := talkPrior(0, "u=1")
		prior.N, prior.Side, prior.Body = v, 1, zeroes(9000)
		checkReplies(t, s, []impl.TalkOp{ask, prior, drop, all}, failed(0, impl.ErrCancel))
	}
}
