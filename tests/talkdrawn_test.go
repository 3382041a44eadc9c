package tests

import (
	"fmt"
	"maps"
	"slices"
	"strings"
	"testing"

	"loop.example/g00012/impl"
)

func drawnTalkSetup(more *numbers) impl.TalkSetup {
	table := func() int {
		return []int{0, more.below(100), 60 + more.below(200), more.below(4097), 4096}[more.below(5)]
	}
	return impl.TalkSetup{
		Routes: someRoutes(), ClientTable: table(), ServerTable: table(),
		Blocked: []int{0, 1, 2, more.below(8), 64}[more.below(5)], Piece: []int{1, 2, 1 + more.below(20), 1 + more.below(4096)}[more.below(4)],
	}
}

func drawnTalkAsk(more *numbers) impl.TalkOp {
	asked := [][2]string{{"POST", "/"}, {"POST", "/"}, {"POST", "/echo"}, {"POST", "/count"}, {"GET", "/"}, {"GET", "/part/a"}, {"GET", "/part/bcd?e"}, {"DELETE", "/gone"}, {"GET", "/none"}, {"GET", "/nowhere"}, {"GET", "/teapot"}, {"PUT", "/"}, {"GET", "/long"}}[more.below(13)]
	op := talkAsk(asked[0], asked[1], strings.Repeat("q", more.below([]int{1, 4, 40, 300}[more.below(4)])))
	for range more.below(4) {
		op.Request.Fields = append(op.Request.Fields, aField([]string{"x-a", "x-b", "cookie", "x"}[more.below(4)], fmt.Sprint(more.below(4))))
	}
	if more.below(3) == 0 {
		op.Request.Fields = append(op.Request.Fields, aField("priority", drawnPriorityText(more)))
	}
	if more.below(4) == 0 {
		op.Request.Fields = append(op.Request.Fields, aLength(fmt.Sprint(len(op.Body))))
	}
	return op
}

func drawnPriorityText(more *numbers) string {
	return []string{"", "i", "u=1", impl.PriorityText(more.below(8), more.below(2) == 0)}[more.below(4)]
}

// talkWish is what drawn talks may hold.
type talkWish struct {
	drops, goaways, wrong, raws bool
	// gentle raws are on responses, and goaways.
	gentle bool
}

// drawnHalf is a stream on which a side has written, in most cases one of which something has yet to come.
func drawnHalf(more *numbers, k *askedTalk) (int, int) {
	var fresh, all [][2]int
	for side, p := range k.peers {
		for _, id := range slices.Sorted(maps.Keys(p.halves)) {
			all = append(all, [2]int{side, id})
			if h := p.halves[id]; h.came < len(h.all) || h.end && !h.endCame {
				fresh = append(fresh, [2]int{side, id})
			}
		}
	}
	if len(fresh) == 0 || more.below(20) == 0 {
		fresh = all
	}
	h := fresh[more.below(len(fresh))]
	return h[0], h[1]
}

// drawnRawBytes are a frame, an instruction or an acknowledgement, now and then spoilt or cut.
func drawnRawBytes(more *numbers, k *askedTalk, side, id int) []byte {
	var b []byte
	switch {
	case more.below(12) == 0:
		b = more.bytes(more.below(6))
	case id%4 >= 2 && id/4 == 1:
		b = drawnInstr(more, k.peers[1-side].decoder.Table)
	case id%4 >= 2 && id/4 == 2:
		b = drawnAcks(more, k.peers[1-side].encoder)
	case id%4 >= 2:
		b = hyperBytesAsked([]impl.HFrame{{Kind: 33}, {Kind: 7, A: more.below(40)}, {Kind: 15, A: 4 * more.below(8), Data: []byte(drawnPriorityText(more))}, {Kind: 4}, {Kind: 2, Data: more.bytes(5)}}[more.below(5)])
	default:
		section := []byte{byte(more.below(4)), 192, []byte{128, 129, 193, 96}[more.below(4)]}
		b = hyperBytesAsked([]impl.HFrame{{Kind: 33}, {Kind: 0, Data: more.bytes(more.below(5))}, {Kind: 1, Data: section[:more.below(4)]}, {Kind: 1, Data: []byte{0}}, {Kind: 99, Data: more.bytes(5)}}[more.below(5)])
	}
	if more.below(10) == 0 && len(b) > 0 {
		b = b[:more.below(len(b))]
	}
	return b
}

// drawnRaw is on a stream that has not ended, in most cases.
func drawnRaw(more *numbers, k *askedTalk) impl.TalkOp {
	side, id := more.below(2), more.below(12)
	for range 10 {
		if h := k.peers[side].halves[id]; h != nil && !h.end {
			break
		}
		side = more.below(2)
		id = slices.Sorted(maps.Keys(k.peers[side].halves))[more.below(len(k.peers[side].halves))]
	}
	return drawnRawOn(more, k, side, id)
}

func drawnRawOn(more *numbers, k *askedTalk, side, id int) impl.TalkOp {
	op := talkRaw(side, id, drawnRawBytes(more, k, side, id)...)
	if more.below(8) == 0 {
		op.Text = "end"
	}
	return op
}

// openResponses are those streams of responses that have not ended.
func openResponses(k *askedTalk) []int {
	var ids []int
	for _, c := range k.contents {
		if !k.half(1, c.id).end {
			ids = append(ids, c.id)
		}
	}
	return ids
}

// drawnDrop is of a request whose response waits, if there is one.
func drawnDrop(more *numbers, k *askedTalk) impl.TalkOp {
	for _, id := range slices.Sorted(maps.Keys(k.peers[0].messages)) {
		if k.peers[0].messages[id].waits {
			return talkDrop(id)
		}
	}
	return talkDrop(4 * more.below(len(k.replies)+1))
}

func drawnWrongOp(more *numbers) impl.TalkOp {
	return impl.TalkOp{Kind: more.below(10), Side: more.below(4) - 1, Id: more.below(20) - 2, N: more.below(4) - 1, Text: strings.Repeat("x", more.below(2)*1025), Request: drawnRequest(more), Body: zeroes(more.below(2) * 8193)}
}

func drawnTalkOp(more *numbers, k *askedTalk, wish talkWish) impl.TalkOp {
	id := 4 * more.below(len(k.replies)+1)
	switch n := more.below(64); {
	case n < 8:
		return drawnTalkAsk(more)
	case n < 40:
		side, id := drawnHalf(more, k)
		return talkMove(side, id, 1+more.below([]int{1, 3, 12, 1000}[more.below(4)]))
	case n < 48:
		return talkTurn()
	case n < 52:
		return talkPrior(id, drawnPriorityText(more))
	case n < 55 && wish.drops:
		return drawnDrop(more, k)
	case n == 55 && wish.goaways && more.below(3) == 0:
		return talkAway()
	case n == 56 && wish.wrong:
		op := drawnWrongOp(more)
		if op.Kind == impl.TRaw && !wish.raws || op.Kind == impl.TGoaway && !wish.goaways || op.Kind == impl.TDrop && !wish.drops {
			op.Kind = 9
		}
		return op
	case n == 57 && wish.gentle && more.below(3) == 0:
		return talkRaw(1, 3, hyperBytesAsked(impl.HFrame{Kind: impl.HGoaway, A: 4 * more.below(len(k.replies)+1)})...)
	case n < 60 && wish.gentle:
		if responses := openResponses(k); len(responses) > 0 {
			return drawnRawOn(more, k, 1, responses[more.below(len(responses))])
		}
	case n < 60 && wish.raws:
		return drawnRaw(more, k)
	case n == 60:
		return talkAll()
	}
	return talkMove(more.below(2), 2+more.below(10), 1+more.below(9))
}

// drawnTalk is a run of so many operations; what the second program knows behind it comes with it.
func drawnTalk(more *numbers, s impl.TalkSetup, wish talkWish, count int) ([]impl.TalkOp, *askedTalk) {
	k := newAskedTalk(s)
	var ops []impl.TalkOp
	for range count {
		op := drawnTalkOp(more, k, wish)
		ops = append(ops, op)
		k.run(op)
	}
	return ops, k
}

// checkAnswered asks of each request, when all has come, what became of it.
func checkAnswered(t *testing.T, s impl.TalkSetup, ops []impl.TalkOp, away int, out impl.TalkOut) {
	t.Helper()
	if out.Client != impl.OK || out.Server != impl.OK {
		t.Errorf("an end met an error: %s\n  of %s", toldTalkOut(out), toldTalk(s, ops))
	}
	var want []impl.Reply
	for i, op := range ops {
		obs := out.Obs[i]
		switch {
		case obs.Code != impl.OK:
		case op.Kind == impl.TAsk:
			r, content, code := impl.Answer(s.Routes, op.Request, op.Body)
			if code != impl.OK {
				t.Errorf("Answer: %d, of %s", code, toldTalkOp(op))
			}
			reply := impl.Reply{Id: obs.Id, Status: r.Status, Fields: r.Fields, Body: content, Done: true}
			if away >= 0 && obs.Id >= away {
				reply = failed(obs.Id, impl.ErrCancel)
			}
			want = append(want, reply)
		case op.Kind == impl.TDrop:
			want[op.Id/4] = failed(op.Id, impl.ErrCancel)
		}
	}
	if !slices.EqualFunc(out.Replies, want, sameReply) {
		t.Errorf("Replies:\n    %s\n  want\n    %s\n  of %s", toldTalkOut(out), toldTalkOut(impl.TalkOut{Replies: want}), toldTalk(s, ops))
	}
}

func TestP23DrawnTalks(t *testing.T) {
	met := map[string]int{}
	for seed := range 600 {
		more := numbers(170000 + seed)
		s := drawnTalkSetup(&more)
		wish := talkWish{drops: seed%2 == 0, goaways: seed%3 == 0, wrong: seed%5 == 0}
		ops, k := drawnTalk(&more, s, wish, 20+more.below(170))
		ops = append(ops, talkAll())
		out, runMet := checkTalkAsked(t, s, ops)
		for what, n := range runMet {
			met[what] += n
		}
		checkAnswered(t, s, ops, k.away, impl.TalkRun(s, ops))
		if t.Failed() {
			t.Fatalf("seed %d: %s", seed, toldTalkOut(out))
		}
	}
	for _, what := range []string{"waited", "waited: 2", "went on", "told entries", "read by the table", "done", "a choice", "priority of what waits", "refused by a goaway", "gave up what waits", "not looked at", "answered 200", "answered 404", "answered 405", "answered 204"} {
		if met[what] < 10 {
			t.Errorf("hardly met: %s (%d)", what, met[what])
		}
	}
}

// Whatever the order and the pieces in which the bytes of the same requests come, the Replies are the same.
func TestP23WhateverTheOrder(t *testing.T) {
	for seed := range 40 {
		more := numbers(171000 + seed)
		s := drawnTalkSetup(&more)
		var asks []impl.TalkOp
		for range 1 + more.below(16) {
			asks = append(asks, drawnTalkAsk(&more))
		}
		var want []impl.Reply
		for try := range 25 {
			k := newAskedTalk(s)
			var ops []impl.TalkOp
			left := asks
			for len(ops) < 199 && (len(left) > 0 || len(ops) < 80+more.below(120)) {
				var op impl.TalkOp
				switch n := more.below(8); {
				case len(left) > 0 && (n == 0 || len(ops)+len(left) >= 199 || try == 0):
					op, left = left[0], left[1:]
				case n == 1:
					op = talkTurn()
				default:
					side, id := drawnHalf(&more, k)
					op = talkMove(side, id, 1+more.below([]int{1, 5, 50, 10000}[more.below(4)]))
				}
				ops = append(ops, op)
				k.run(op)
			}
			ops = append(ops, talkAll())
			out := impl.TalkRun(s, ops)
			if try == 0 {
				want = out.Replies
				checkAnswered(t, s, ops, -1, out)
			}
			if out.Client != 0 || out.Server != 0 || len(out.Replies) != len(asks) || !slices.EqualFunc(out.Replies, want, sameReply) {
				t.Fatalf("seed %d, try %d:\n    %s\n  want\n    %s\n  of %s", seed, try, toldTalkOut(out), toldTalkOut(impl.TalkOut{Replies: want}), toldTalk(s, ops))
			}
		}
	}
}

// With what is written by hand: nothing is promised of it but what the chapter says.
func TestTalkDrawnRaws(t *testing.T) {
	met := map[string]int{}
	for seed := range 2000 {
		more := numbers(172000 + seed)
		s := drawnTalkSetup(&more)
		wish := talkWish{drops: seed%2 == 0, goaways: seed%3 == 0, wrong: seed%5 == 0, raws: true, gentle: seed%7 > 2}
		ops, _ := drawnTalk(&more, s, wish, 20+more.below(80))
		_, runMet := checkTalkAsked(t, s, append(ops, talkAll()))
		for what, n := range runMet {
			met[what] += n
		}
		if t.Failed() {
			t.Fatalf("seed %d", seed)
		}
	}
	for _, what := range []string{"side 0 met 2", "side 0 met 3", "side 0 met 16", "side 0 met 18", "side 1 met 3", "side 1 met 16", "side 1 met 18", "no response", "behind an end", "went on", "done", "refused by a goaway", "done though refused", "no response to what was refused"} {
		if met[what] < 10 {
			t.Errorf("hardly met: %s (%d) of %v", what, met[what], met)
		}
	}
}
