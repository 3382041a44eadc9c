package tests

import (
	"fmt"
	"math"
	"slices"
	"strings"
	"testing"

	"loop.example/g00012/impl"
)

// controlBytes is how many bytes an end writes on control at first: the byte 0, and the frame of two settings.
func controlBytes(s impl.TalkSetup, table int) int {
	return 1 + 2 + 1 + len(varBytes(table)) + 1 + len(varBytes(s.Blocked))
}

func TestTalkMovesThatAreNone(t *testing.T) {
	s := plainTalk()
	for _, n := range []int{0, -1, math.MinInt} {
		checkLast(t, s, impl.ErrBad, talkMove(0, 2, n))
		checkLast(t, s, impl.ErrBad, talkEcho(""), talkMove(0, 0, n))
	}
	for _, n := range []int{1, 2, 1000, math.MaxInt} {
		for place := range 3 {
			checkLast(t, s, impl.OK, talkMove(0, 4*place+2, n))
			checkLast(t, s, impl.OK, talkMove(1, 4*place+3, n))
			// Those of the other side, and behind the last one.
			checkLast(t, s, impl.ErrBad, talkMove(1, 4*place+2, n))
			checkLast(t, s, impl.ErrBad, talkMove(0, 4*place+3, n))
		}
		for _, id := range []int{0, 1, 4, 5, 14, 15, 99, -1, -2, -4, math.MinInt, math.MaxInt, 1 << 60, 1<<32 + 2} {
			checkLast(t, s, impl.ErrBad, talkMove(0, id, n))
			checkLast(t, s, impl.ErrBad, talkMove(1, id, n))
		}
	}
	// A request's stream is there from when it was asked, and the server's part of it from when it has answered.
	checkLast(t, s, impl.OK, talkEcho(""), talkMove(0, 0, 1))
	checkLast(t, s, impl.ErrBad, talkEcho(""), talkMove(0, 4, 1))
	checkLast(t, s, impl.ErrBad, talkEcho(""), talkMove(1, 0, 1))
	checkLast(t, s, impl.OK, talkEcho(""), talkMove(0, 0, 99), talkMove(1, 0, 1))
	// Behind all and behind the end.
	ops := append([]impl.TalkOp{talkEcho("x"), talkAll()}, talkMoves(0, 0, 2, 6, 10)...)
	checkReplies(t, s, slices.Concat(ops, talkMoves(1, 0, 3, 7, 11), talkMoves(0, 0, 0, 0), talkMoves(1, 0, 0, 0)), done(0, 200, "x"))
	checkLast(t, s, impl.OK, append(ops, talkMove(1, 0, 1))...)
}

// Over every stream by single bytes, as many as it needs and more.
func TestP23BySingleBytes(t *testing.T) {
	s := talkWith(100, 1, 4)
	var ops []impl.TalkOp
	ops = append(ops, talkRoot("ab", "x", "y"))
	single := func(side, id, n int) { ops = append(ops, slices.Repeat([]impl.TalkOp{talkMove(side, id, 1)}, n)...) }
	single(1, 3, 8)
	single(0, 2, 8)
	single(0, 0, 20)
	ops = append(ops, talkTurn())
	single(1, 0, 12)
	single(1, 7, 4)
	single(0, 6, 4)
	ops = append(ops, talkRoot("cd", "x", "y"))
	single(0, 4, 13)
	single(0, 6, 8)
	single(1, 11, 4)
	ops = append(ops, talkTurn())
	single(0, 10, 4)
	single(1, 4, 12)
	single(1, 7, 10)
	ops = append(ops, talkAsk("GET", "/", "", "x", "y"))
	single(0, 8, 9)
	ops = append(ops, talkTurn())
	single(1, 8, 13)
	single(1, 7, 3)
	single(0, 10, 3)
	if len(ops) > 200 {
		t.Fatalf("%d operations", len(ops))
	}
	_, met := checkTalkEach(t, s, ops)
	out := impl.TalkRun(s, ops)
	for _, r := range out.Replies {
		if !r.Done {
			t.Errorf("not done: %s", toldReply(r))
		}
	}
	if out.Client != 0 || out.Server != 0 || met["waited"] == 0 || met["read by the table"] == 0 || met["told entries"] == 0 {
		t.Errorf("%s\n%v", toldTalkOut(out), met)
	}
}

// Each way of cutting what is written on a stream in two.
func TestP23CutInTwo(t *testing.T) {
	s := talkWith(200, 1, 3)
	body := "some bytes"
	for n := range 60 {
		n := n + 1
		for _, first := range []struct{ side, id int }{{0, 0}, {0, 2}, {0, 6}, {0, 10}, {1, 3}, {1, 7}, {1, 11}, {0, 4}, {1, 0}, {1, 4}} {
			move := talkMove(first.side, first.id, n)
			ops := []impl.TalkOp{talkAll(), talkEcho(body, "x-a", "1"), move, talkMove(0, 0, 4), move, talkTurn(), move, talkEcho(body, "x-a", "1", "x-b", "2"), move}
			ops = append(ops, talkMoves(0, 4, 0)...)
			ops = append(ops, move, talkTurn(), move, talkTurn(), move, talkAll())
			checkReplies(t, s, ops, done(0, 200, body), done(4, 200, body))
		}
	}
}

// The settings count from their last byte on: only then a request puts fields into the table, and its section has to wait for them.
func TestP23SettingsByBytes(t *testing.T) {
	for _, c := range []struct{ table, blocked int }{{100, 1}, {63, 64}, {64, 63}, {4096, 64}, {200, 2}} {
		s := talkWith(c.table, c.blocked, 10)
		s.ClientTable = 0
		size := controlBytes(s, s.ServerTable)
		for n := range size + 3 {
			ops := []impl.TalkOp{talkAsk("GET", "/", "")}
			if n > 0 {
				ops = append(ops, talkMove(1, 3, n))
			}
			cost := 32 + len("x-a")
			ops = append(ops, talkRoot("", "x-a", ""))
			ops = append(ops, talkMoves(0, 4)...)
			waits := n >= size && cost <= c.table/2
			code := impl.OK
			if waits {
				code = impl.ErrBad
			}
			checkLast(t, s, code, append(slices.Clone(ops), talkMove(1, 4, 1))...)
			// The instruction for the capacity comes ahead of the entry.
			checkReplies(t, s, append(ops, talkAll()), done(0, 200, "home"), done(4, 200, ""))
		}
	}
}

// waitingTalk has sections that wait: count requests, of which the first ones need instructions that have not come.
func waitingTalk(count int) []impl.TalkOp {
	ops := []impl.TalkOp{talkAll()}
	for i := range count {
		ops = append(ops, talkRoot(fmt.Sprintf("body %d", i), "x-a", fmt.Sprint(i)))
	}
	return ops
}

func TestP23SectionsThatWait(t *testing.T) {
	for _, blocked := range []int{0, 1, 2, 5, 16, 64} {
		for _, count := range []int{1, 2, 3, 6, 16} {
			s := talkWith(4096, blocked, 100)
			ops := waitingTalk(count)
			var want []impl.Reply
			for i := range count {
				ops = append(ops, talkMoves(0, 4*i)...)
				want = append(want, done(4*i, 200, fmt.Sprintf("body %d", i)))
			}
			_, met := talkAsked(s, ops)
			if met["waited"] != min(blocked, count) {
				t.Errorf("blocked %d: %d of %d waited", blocked, met["waited"], count)
			}
			// One more than may wait refers to nothing, and is answered at once.
			for i := range count {
				code := impl.OK
				if i < blocked {
					code = impl.ErrBad
				}
				checkLast(t, s, code, append(slices.Clone(ops), talkMove(1, 4*i, 1))...)
			}
			checkReplies(t, s, append(slices.Clone(ops), talkAll()), want...)
			// The content and the end behind a section that waits come in pieces, or ahead of the instructions.
			ops = waitingTalk(count)
			for i := range count {
				ops = append(ops, talkMove(0, 4*i, 3), talkMove(0, 4*i, 5), talkMove(0, 4*i, 2))
			}
			ops = append(ops, talkMove(0, 6, 4))
			for i := range count {
				ops = append(ops, talkMove(0, 4*(count-1-i), 99))
			}
			ops = append(ops, talkMove(0, 6, 5), talkMove(0, 6, 9), talkAll())
			checkReplies(t, s, ops, want...)
		}
	}
}

// Those that wait go on one by one as their instructions come, and what they wait for is told on.
func TestP23SectionsGoOnOneByOne(t *testing.T) {
	s := talkWith(4096, 3, 100)
	begin := waitingTalk(3)
	begin = append(begin, talkMoves(0, 8, 0, 4)...)
	// An instruction: its first byte, three of the name, the value's number of bytes, and its byte.
	const size = 6
	for n := range 3*size + 2 {
		ops := slices.Clone(begin)
		if n > 0 {
			ops = append(ops, talkMove(0, 6, n))
		}
		for i := range 3 {
			code := impl.ErrBad
			if n >= (i+1)*size {
				code = impl.OK
			}
			checkLast(t, s, code, append(slices.Clone(ops), talkMove(1, 4*i, 1))...)
		}
		checkReplies(t, s, append(ops, talkAll()), done(0, 200, "body 0"), done(4, 200, "body 1"), done(8, 200, "body 2"))
	}
}

// A response waits likewise, at the client.
func TestP23ResponsesThatWait(t *testing.T) {
	for _, blocked := range []int{0, 1, 2, 3} {
		s := talkWith(4096, blocked, 100)
		ops := []impl.TalkOp{talkAll(), talkRoot("a"), talkRoot("bb"), talkRoot("ccc")}
		ops = append(ops, talkMoves(0, 0, 4, 8)...)
		ops = append(ops, talkTurn(), talkTurn(), talkTurn())
		ops = append(ops, talkMoves(1, 8, 4, 0)...)
		out, met := checkTalkAsked(t, s, ops)
		for i, r := range out.Replies {
			if r.Done != (i >= blocked) {
				t.Errorf("blocked %d: %s", blocked, toldReply(r))
			}
		}
		if met["waited"] != blocked {
			t.Errorf("blocked %d: %v", blocked, met)
		}
		checkReplies(t, s, append(ops, talkMoves(1, 7)...), done(0, 200, "a"), done(4, 200, "bb"), done(8, 200, "ccc"))
	}
}

// What was read is told to the encoder: from then on it may refer to it where nothing may wait.
func TestP23WhatIsKnownIsReferredTo(t *testing.T) {
	s := talkWith(4096, 0, 100)
	long := strings.Repeat("v", 60)
	ask := talkRoot("", "x-a", long)
	// Nothing may wait: the value is written out, until it is known that the entry has come. (The length of the longer frame takes two bytes.)
	plain := 3 + 1 + 3 + (1 + 3 + 1 + 60)
	referred := 2 + 1 + 3 + 1
	for _, c := range []struct {
		ahead []impl.TalkOp
		size  int
	}{
		{nil, plain},
		{talkMoves(0, 4), plain},
		{talkMoves(0, 6), plain},
		{append(talkMoves(0, 6), talkMove(1, 11, 1)), referred},
		{append(talkMoves(0, 6), talkMoves(1, 11)...), referred},
		{[]impl.TalkOp{talkAll()}, referred},
	} {
		ops := slices.Concat([]impl.TalkOp{talkAll(), talkRoot("", "x-b", "1"), ask}, c.ahead, []impl.TalkOp{ask})
		checkLast(t, s, impl.ErrBad, append(slices.Clone(ops), talkMove(0, 8, c.size-1), talkMove(1, 8, 1))...)
		checkLast(t, s, impl.OK, append(slices.Clone(ops), talkMove(0, 8, c.size), talkMove(1, 8, 1))...)
		checkReplies(t, s, append(ops, talkAll()), done(0, 200, ""), done(4, 200, ""), done(8, 200, ""))
	}
}

// The table is small: what is known and nobody asks for goes, and all is answered.
func TestP23SmallTables(t *testing.T) {
	for _, table := range []int{0, 1, 63, 64, 66, 70, 72, 80, 100, 110, 150} {
		for _, blocked := range []int{0, 1, 3} {
			s := talkWith(table, blocked, 3)
			var ops []impl.TalkOp
			var want []impl.Reply
			for i := range 16 {
				ops = append(ops, talkEcho(strings.Repeat("z", i%7), "a", fmt.Sprint(i%5), "b", fmt.Sprint(i%3)))
				want = append(want, done(4*i, 200, strings.Repeat("z", i%7)))
				switch i % 4 {
				case 0:
					ops = append(ops, talkMoves(0, 4*i, 6)...)
				case 1:
					ops = append(ops, talkMoves(1, 3, 11, 7)...)
				case 3:
					ops = append(ops, talkAll())
				}
			}
			checkReplies(t, s, append(ops, talkAll()), want...)
		}
	}
}

// TAll brings rising streams of the client, then of the server, and one turn, again and again: as the single operations do.
func TestTalkAllIsManyMoves(t *testing.T) {
	s := talkWith(400, 2, 3)
	asks := []impl.TalkOp{talkEcho("a body", "x-a", "1", "priority", "i"), talkEcho("another", "priority", "i"), talkAsk("GET", "/", "", "x-a", "1")}
	round := slices.Concat(talkMoves(0, 0, 2, 4, 6, 8, 10), talkMoves(1, 0, 3, 4, 7, 8, 11), []impl.TalkOp{talkTurn()})
	byHand := slices.Clone(asks)
	for range 8 {
		byHand = append(byHand, round...)
	}
	checkReplies(t, s, byHand, done(0, 200, "a body"), done(4, 200, "another"), done(8, 200, "home"))
	checkReplies(t, s, append(slices.Clone(asks), talkAll()), done(0, 200, "a body"), done(4, 200, "another"), done(8, 200, "home"))
	// Amid the rounds.
	for n := range len(byHand) - len(asks) {
		checkReplies(t, s, append(slices.Clone(byHand[:len(asks)+n]), talkAll()), done(0, 200, "a body"), done(4, 200, "another"), done(8, 200, "home"))
	}
}
