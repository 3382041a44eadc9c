package tests

import (
	"testing"

	"loop.example/g00012/impl"
)

// worldWish is what drawn worlds may hold.
type worldWish struct {
	link                  linkWish
	losses, reorders      bool
	drops, goaways, wrong bool
	// asks is how many requests there may be.
	asks int
}

func drawnWorldSetup(more *numbers) impl.WorldSetup {
	s := impl.WorldSetup{Link: drawnLinkSetup(more), Talk: drawnTalkSetup(more)}
	for _, p := range paramsIn(&s.Link) {
		p.OneWay = 3 + more.below(4)
	}
	s.Link.Server.TwoWay = 1 + more.below([]int{2, 5, 20}[more.below(3)])
	if s.Talk.Piece < 10 && more.below(2) == 0 {
		s.Talk.Piece = 100 + more.below(900)
	}
	return s
}

// goodWorldSetup is one in which both ends meet and stay, and all that is asked comes in as many datagrams as there may be.
func goodWorldSetup(more *numbers) impl.WorldSetup {
	s := drawnWorldSetup(more)
	for _, p := range paramsIn(&s.Link) {
		p.ConnWindow, p.StreamWindow, p.Idle = max(p.ConnWindow, 400), max(p.StreamWindow, 300), 0
	}
	s.Link.Versions, s.Link.ServerVersions = plainLink().Versions, plainLink().ServerVersions
	s.Link.Names, s.Link.ServerNames = plainLink().Names, plainLink().ServerNames
	s.Talk.Piece = max(s.Talk.Piece, 50)
	return s
}

func drawnWorldAsk(more *numbers) impl.WorldOp {
	op := drawnTalkAsk(more)
	if more.below(6) == 0 {
		op = talkEcho(string(more.bytes(more.below([]int{1000, 3000, 8193}[more.below(3)]))))
	}
	return onTalk(op)
}

func drawnWorldTalk(more *numbers, w *askedWorld, wish worldWish) impl.WorldOp {
	id := 4 * more.below(len(w.talk.replies)+1)
	switch more.below(8) {
	case 0, 1:
		return onTalk(talkPrior(id, drawnPriorityText(more)))
	case 2:
		if wish.drops {
			return onTalk(drawnDrop(more, w.talk))
		}
	case 3:
		if wish.goaways && more.below(4) == 0 {
			return onTalk(talkAway())
		}
	}
	if len(w.talk.replies) >= wish.asks {
		return onLink(linkTick(more.below(3000)))
	}
	return drawnWorldAsk(more)
}

func drawnWorldLink(more *numbers, w *askedWorld, wish worldWish) impl.WorldOp {
	side := more.below(2)
	switch more.below(12) {
	case 0:
		if wish.link.spoils {
			return onLink(linkSpoil(drawnDatagram(more, w.link), more.below(60), more.below(300)))
		}
	case 1:
		return onLink(linkTick(drawnTick(more)))
	case 2:
		if wish.link.closes && more.below(5) == 0 {
			return onLink(linkClose(side, more.variable()))
		}
	case 3:
		if wish.link.moves {
			return onLink(linkRebind())
		}
	case 4:
		if wish.link.updates {
			return onLink(linkUpdate(side))
		}
	case 5:
		if wish.losses {
			return onLink(linkLose())
		}
	case 6:
		return onLink(linkCalm(1 + more.below(60)))
	}
	if wish.reorders {
		return onLink(linkDeliver(drawnDatagram(more, w.link)))
	}
	return onLink(linkCalm(1))
}

// drawnWorldWrong has fields of both kinds, and any numbers.
func drawnWorldWrong(more *numbers) impl.WorldOp {
	number := func() int { return []int{-1, 0, 1, 2, 3, more.below(20), more.variable()}[more.below(7)] }
	return impl.WorldOp{
		Kind: more.below(4),
		Link: impl.LinkOp{Kind: more.below(15), Side: more.below(4) - 1, Id: number(), N: number(), At: number(), Data: more.bytes(more.below(5)), Flag: more.below(2) == 0},
		Talk: drawnWrongOp(more),
	}
}

// mayHold leaves out what a drawn operation of any numbers would do against a wish.
func (wish worldWish) mayHold(op impl.WorldOp) bool {
	if op.Kind == impl.WTalk {
		return (op.Talk.Kind != impl.TDrop || wish.drops) && (op.Talk.Kind != impl.TGoaway || wish.goaways) && op.Talk.Kind != impl.TAsk
	}
	allowed := map[int]bool{impl.LSpoil: wish.link.spoils, impl.LClose: wish.link.closes, impl.LRebind: wish.link.moves, impl.LUpdate: wish.link.updates, impl.LLose: wish.losses, impl.LDeliver: wish.reorders}
	may, named := allowed[op.Link.Kind]
	return op.Kind != impl.WLink || !named || may
}

func drawnWorldOp(more *numbers, w *askedWorld, wish worldWish) impl.WorldOp {
	if wish.wrong && more.below(12) == 0 {
		if op := drawnWorldWrong(more); wish.mayHold(op) {
			return op
		}
	}
	if more.below(3) == 0 {
		return drawnWorldTalk(more, w, wish)
	}
	return drawnWorldLink(more, w, wish)
}

// drawnWorld is a run of so many operations.
func drawnWorld(more *numbers, s impl.WorldSetup, wish worldWish, count int) []impl.WorldOp {
	w := newAskedWorld(s)
	var ops []impl.WorldOp
	add := func(op impl.WorldOp) {
		ops = append(ops, op)
		w.run(op)
	}
	for range more.below(3) {
		add(drawnWorldAsk(more))
	}
	if more.below(3) > 0 {
		add(onLink(linkCalm(1 + more.below(60))))
	}
	for len(ops) < count {
		add(drawnWorldOp(more, w, wish))
	}
	return ops
}

// checkWorldBook goes by the answers alone: each Reply that is Done is Answer of its request, and no end meets an error.
func checkWorldBook(t *testing.T, s impl.WorldSetup, ops []impl.WorldOp, out impl.WorldOut) {
	t.Helper()
	var asked []impl.TalkOp
	given, away := map[int]bool{}, false
	for i, op := range ops {
		if op.Kind != impl.WTalk || out.Obs[i].Code != impl.OK {
			continue
		}
		switch op.Talk.Kind {
		case impl.TAsk:
			if out.Obs[i].Id != 4*len(asked) {
				t.Fatalf("request %d has the Id %d", len(asked), out.Obs[i].Id)
			}
			asked = append(asked, op.Talk)
		case impl.TDrop:
			given[op.Talk.Id] = true
		case impl.TGoaway:
			away = true
		}
	}
	if len(out.Replies) != len(asked) || out.Talk0 != impl.OK || out.Talk1 != impl.OK {
		t.Fatalf("%d requests: %s", len(asked), toldWorldOut(out))
	}
	for i, r := range out.Replies {
		want := impl.Reply{Id: 4 * i, Code: r.Code}
		if r.Done {
			response, content, code := impl.Answer(s.Talk.Routes, asked[i].Request, asked[i].Body)
			if code != impl.OK {
				t.Fatalf("Answer: %d", code)
			}
			want = impl.Reply{Id: 4 * i, Status: response.Status, Fields: response.Fields, Body: content, Done: true}
		} else if r.Code != impl.OK && (r.Code != impl.ErrCancel || !given[4*i] && !away) {
			t.Fatalf("Reply %s was not given up", toldReply(r))
		}
		if !sameReply(r, want) {
			t.Fatalf("Reply %s, want %s", toldReply(r), toldReply(want))
		}
	}
}

func doneOf(o impl.WorldOut) int {
	count := 0
	for _, r := range o.Replies {
		count += way(r.Done)
	}
	return count
}

func drawnWorldWish(more *numbers) worldWish {
	wish := worldWish{link: drawnWish(more), losses: more.below(3) > 0, reorders: more.below(3) > 0, drops: more.below(2) == 0, goaways: more.below(2) == 0, wrong: more.below(3) == 0, asks: 16}
	if more.below(2) == 0 {
		wish.asks = 1 + more.below(5)
	}
	return wish
}

// worldMeets are things that drawn worlds are to meet.
func worldMeets() []string {
	return []string{
		"a choice", "a stream waits", "address answered", "address changed", "an older packet", "answered 200", "answered 204", "answered 404", "answered 405", "came ahead", "credit", "does not open", "done",
		"keys followed", "little room on the path", "lost", "lost by a timer", "no room in the air", "no room on the path", "not looked at", "ping", "priority of what waits", "read by the table", "refused by a goaway",
		"retry", "told again", "told entries", "to a closed end", "too early", "version changed", "waited", "went on", "window full",
	}
}

// Whatever the network does: each run is as the chapter says, and each Reply that is Done is what Answer says.
func TestP24DrawnWorlds(t *testing.T) {
	met, replies, done := map[string]int{}, 0, 0
	for seed := range 500 {
		more := numbers(180000 + seed)
		s := drawnWorldSetup(&more)
		ops := drawnWorld(&more, s, drawnWorldWish(&more), 20+more.below(80))
		out, w := checkWorld(t, s, ops...)
		checkWorldBook(t, s, ops, out)
		replies += len(out.Replies)
		done += doneOf(out)
		for _, list := range []map[string]int{w.met, w.link.met, w.talk.met} {
			for what, n := range list {
				met[what] += n
			}
		}
	}
	for _, what := range worldMeets() {
		if met[what] < 10 {
			t.Errorf("hardly met: %s (%d)", what, met[what])
		}
	}
	if done < 1000 || replies-done < 500 {
		t.Errorf("of %d Replies %d are Done", replies, done)
	}
}

// allDone runs two good calms behind the operations, and asks that every request was answered; false if the air was full or the ends can't meet.
func allDone(t *testing.T, seed int, s impl.WorldSetup, ops []impl.WorldOp) (int, bool) {
	t.Helper()
	ops = append(ops, onLink(linkCalm(60)), onLink(linkCalm(60)))
	out, w := checkWorld(t, s, ops...)
	checkWorldBook(t, s, ops, out)
	// A client whose token is spoilt or too old is never let in.
	if len(w.link.air) == 600 || s.Link.Retry && out.Server.State == impl.LsStart {
		return 0, false
	}
	if doneOf(out) != len(out.Replies) || out.Client.State != impl.LsOpen || out.Server.State != impl.LsOpen || out.Client.Flight+out.Server.Flight != 0 {
		t.Fatalf("seed %d: %s", seed, toldWorld(s, ops, out, out))
	}
	return len(out.Replies), true
}

// Without losses all are Done when all has come.
func TestP24AllAreDoneWithoutLosses(t *testing.T) {
	replies, full := 0, 0
	for seed := range 200 {
		more := numbers(190000 + seed)
		s := goodWorldSetup(&more)
		wish := worldWish{reorders: seed%2 == 0, wrong: seed%3 == 0, asks: 1 + more.below(16)}
		wish.link.updates = seed%5 == 0
		n, ok := allDone(t, seed, s, drawnWorld(&more, s, wish, 10+more.below(60)))
		replies += n
		full += way(!ok)
	}
	if replies < 1000 || full > 20 {
		t.Errorf("only %d replies, and %d worlds came to nothing", replies, full)
	}
}

// With losses, delays and spoilt datagrams likewise, when the network is good at last.
func TestP24AllAreDoneWhenTheNetworkIsGood(t *testing.T) {
	replies, full := 0, 0
	for seed := range 200 {
		more := numbers(200000 + seed)
		s := goodWorldSetup(&more)
		wish := worldWish{losses: true, reorders: true, wrong: seed%3 == 0, asks: 1 + more.below(10)}
		wish.link.spoils = seed%2 == 0
		n, ok := allDone(t, seed, s, drawnWorld(&more, s, wish, 10+more.below(60)))
		replies += n
		full += way(!ok)
	}
	if replies < 600 || full > 40 {
		t.Errorf("only %d replies, and %d worlds came to nothing", replies, full)
	}
}
