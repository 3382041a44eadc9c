package tests

import (
	"fmt"
	"math"
	"runtime"
	"slices"
	"strings"
	"sync"
	"testing"

	"loop.example/g00012/impl"
)

// worldRun is a setup and its operations.
type worldRun struct {
	setup impl.WorldSetup
	ops   []impl.WorldOp
}

// worldRuns are such as do all kinds of things.
func worldRuns() []worldRun {
	busy := slices.Concat(
		says(talkEcho("some content", "x-a", "1", "priority", "u=2, i"), talkAsk("GET", "/", "", "x-a", "1"), talkPrior(0, "u=1")), delivers(0, 1, 2, 3, 4, 5, 6), says(talkRoot("more", "x-a", "1"), talkRoot("more", "x-a", "1", "x-b", "2"), talkDrop(12)),
		does(linkSpoil(8, 9, 9), linkRebind(), linkTick(3000), linkCalm(9), linkUpdate(0)), says(talkEcho(strings.Repeat("y", 3000))), does(linkLose(), linkTick(3000000), linkCalm(9), linkUpdate(1), linkCalm(9)), says(talkAway(), talkAway(), tooLong()), does(linkCalm(9)),
		says(talkRoot("late")), []impl.WorldOp{{Kind: 99, Talk: talkEcho("none", "x-q", "r"), Link: linkWrite(0, 0, "none")}, onLink(linkWrite(0, 0, "not here"))}, does(linkClose(1, 5), linkCalm(2)), says(talkRoot("too late")),
	)
	model := wideWorld()
	model.Link.Cc, model.Link.Retry = impl.CcModel, true
	list := []worldRun{
		{plainWorld(), nil}, {plainWorld(), busy}, {model, busy}, {scriptLike(), busy}, {worldWith(func(s *impl.WorldSetup) { s.Link.Server.TwoWay, s.Talk = 1, talkWith(0, 0, 1) }), busy},
		{impl.WorldSetup{}, busy}, {plainWorld(), slices.Repeat(busy, 5)}, {worldWith(func(s *impl.WorldSetup) { s.Link.Names = []string{"z"} }), busy},
		{wideWorld(), append(says(talkEcho(strings.Repeat("x", 8192)), talkEcho(strings.Repeat("x", 8193)), talkEcho(strings.Repeat("x", 8192))), calms())},
	}
	for seed := range 5 {
		more := numbers(230000 + seed)
		s := drawnWorldSetup(&more)
		list = append(list, worldRun{s, drawnWorld(&more, s, drawnWorldWish(&more), 60)})
	}
	return list
}

// fencedWorld is a run of which each list lies within a longer one.
type fencedWorld struct {
	setup         impl.WorldSetup
	ops           []impl.WorldOp
	whole, before []impl.WorldOp
	link          *fencedSetup
	talk          *fencedTalk
	data          []fenced[byte]
}

func fenceWorld(run worldRun) *fencedWorld {
	var talks []impl.TalkOp
	for _, op := range run.ops {
		talks = append(talks, op.Talk)
	}
	f := &fencedWorld{link: fenceSetup(run.setup.Link), talk: fenceTalk(run.setup.Talk, talks)}
	f.setup = impl.WorldSetup{Link: f.link.setup, Talk: f.talk.setup}
	mark := onTalk(talkEcho("mark"))
	f.whole = []impl.WorldOp{mark}
	for i, op := range run.ops {
		data := amid(op.Link.Data, 0xee)
		op.Talk, op.Link.Data = f.talk.ops[i], data.list
		f.data = append(f.data, data)
		f.whole = append(f.whole, op)
	}
	f.whole = append(f.whole, mark, mark)
	f.before = slices.Clone(f.whole)
	f.ops = f.whole[1 : 1+len(run.ops)]
	return f
}

func sameLinkOp(a, b impl.LinkOp) bool {
	return a.Kind == b.Kind && a.Side == b.Side && a.Id == b.Id && a.N == b.N && a.At == b.At && a.Flag == b.Flag && sameList(a.Data, b.Data)
}

func (f *fencedWorld) check(t *testing.T) {
	t.Helper()
	f.link.check(t)
	f.talk.check(t)
	for _, list := range f.data {
		list.check(t, "WorldRun")
	}
	for i, op := range f.whole {
		was := f.before[i]
		talk := op.Talk.Kind == was.Talk.Kind && op.Talk.Side == was.Talk.Side && op.Talk.Id == was.Talk.Id && op.Talk.N == was.Talk.N && op.Talk.Text == was.Talk.Text && sameRequest(op.Talk.Request, was.Talk.Request) && sameList(op.Talk.Body, was.Talk.Body)
		if op.Kind != was.Kind || !sameLinkOp(op.Link, was.Link) || !talk {
			t.Errorf("WorldRun wrote into its operations or behind their end")
		}
	}
}

// worldSpoils are, one by one, the lists of an answer, each to be written over with all the room behind it.
func worldSpoils(o impl.WorldOut) []func() {
	var all []func()
	for _, r := range o.Replies {
		all = append(all, func() { spoilAll(r.Fields, aField("spoilt", "spoilt")) }, func() { spoilAll(r.Body, 0xdd) })
	}
	return append(all, func() { spoilAll(o.Obs, impl.WorldObs{Code: -7, Id: -7}) }, func() { spoilAll(o.Replies, failed(-7, -7)) })
}

// worldParts tells each list of an answer alone, in the order of worldSpoils.
func worldParts(o impl.WorldOut) []string {
	parts := talkParts(impl.TalkOut{Replies: o.Replies})
	parts[len(parts)-2] = fmt.Sprint(o.Obs)
	return parts
}

func toldWorldWhole(o impl.WorldOut) string {
	return fmt.Sprint(worldParts(o), o.Code, o.Talk0, o.Talk1, o.Client, o.Server)
}

// Nothing is written into an argument nor behind its end, and what is done to an answer changes no argument, no other list and no later answer.
func TestP1WorldMemory(t *testing.T) {
	for i, run := range worldRuns() {
		f := fenceWorld(run)
		var want impl.WorldOut
		mustEnd(t, "WorldRun", func() { want = impl.WorldRun(f.setup, f.ops) })
		f.check(t)
		whole, parts := toldWorldWhole(want), worldParts(want)
		for at := range worldSpoils(want) {
			got := impl.WorldRun(f.setup, f.ops)
			if told := toldWorldWhole(got); told != whole {
				t.Fatalf("world %d answers another time\n%s\n%s", i, told, whole)
			}
			worldSpoils(got)[at]()
			for other, told := range worldParts(got) {
				if other != at && at < len(parts)-1 && told != parts[other] {
					t.Errorf("world %d: list %d changed with list %d", i, other, at)
				}
			}
			f.check(t)
		}
		var given, told []string
		for _, op := range f.ops {
			given = append(given, append(requestTexts(op.Talk.Request), op.Talk.Text)...)
		}
		for _, r := range want.Replies {
			told = append(told, textsOf(r.Fields)...)
		}
		checkTextsOwn(t, "WorldRun", slices.Concat(given, routeTexts(f.setup.Talk.Routes)), told)
		checkWorld(t, run.setup, run.ops...)
	}
}

// What was handed in may change behind the call: the answer stays.
func TestP1WorldAnswersStay(t *testing.T) {
	for _, run := range worldRuns() {
		f := fenceWorld(run)
		out := impl.WorldRun(f.setup, f.ops)
		for _, op := range f.ops {
			spoilAll(op.Talk.Body, 0x55)
			spoilAll(op.Talk.Request.Fields, aField("spoilt", "spoilt"))
			spoilAll(op.Link.Data, 0x55)
		}
		spoilAll(f.setup.Talk.Routes, markRoute)
		spoilAll(f.setup.Link.Names, "spoilt")
		spoilAll(f.setup.Link.ServerNames, "spoilt")
		spoilAll(f.setup.Link.Shared, 0x55)
		spoilAll(f.setup.Link.Versions, 55)
		if want, _ := worldAsked(run.setup, run.ops); !sameWorld(out, want) {
			t.Errorf("changed with its arguments: %s", toldWorldOut(out))
		}
	}
}

// An empty list and nil are the same, in the setup and in the operations.
func TestP1WorldOfEmptyLists(t *testing.T) {
	ops := append(says(talkEcho(""), talkAsk("GET", "/", "")), calms())
	want, _ := checkWorld(t, plainWorld(), ops...)
	s := plainWorld()
	for _, p := range paramsIn(&s.Link) {
		p.Origin, p.Token, p.First = []byte{}, []byte{}, []byte{}
	}
	for i := range ops {
		ops[i].Link.Data, ops[i].Talk.Body, ops[i].Talk.Request.Fields = []byte{}, []byte{}, []impl.Field{}
	}
	checkWorldIs(t, s, ops, want)
	for i := range ops {
		ops[i].Link.Data, ops[i].Talk.Body, ops[i].Talk.Request.Fields = nil, nil, nil
	}
	checkWorldIs(t, s, ops, want)
	s.Talk.Routes = nil
	want, _ = checkWorld(t, s, ops...)
	s.Talk.Routes = []impl.Route{}
	checkWorldIs(t, s, ops, want)
	checkWorldIs(t, plainWorld(), []impl.WorldOp{}, impl.WorldRun(plainWorld(), nil))
}

// What stands behind the end of a list is not of it.
func TestP1NothingBehindTheEndOfAWorld(t *testing.T) {
	ops := slices.Repeat(does(linkTick(1)), 101)
	if out, _ := checkWorld(t, plainWorld(), ops[:100]...); len(out.Obs) != 100 || out.Obs[99].Time != 100 {
		t.Errorf("%+v", out.Obs)
	}
	body, fields := []byte("content and more"), pairsOf("x-a", "1", "upgrade", "x")
	two := []impl.WorldOp{onTalk(impl.TalkOp{Kind: impl.TAsk, Request: impl.Request{Method: "POST", Scheme: "https", Path: "/", Fields: fields[:1]}, Body: body[:7]}), calms(), onLink(linkClose(0, 1))}
	s := plainWorld()
	s.Talk.Routes = append(slices.Clone(s.Talk.Routes), impl.Route{})[:len(s.Talk.Routes)]
	out := checkWorldReplies(t, s, two[:2], done(0, 200, "content"))
	if out.Client.State != impl.LsOpen {
		t.Errorf("%s", toldWorldOut(out))
	}
}

func worldScripts() []string {
	return []string{
		"", "show", "bad", "ask POST /echo hello\ncalm 20\nshow\n\nask GET /part/qq\nask GET /none\ncalm 20\nshow", "ask POST /count 123456\nspoil 0 300 1\ntick 2000000\ncalm 30\nrebind\nask POST /echo xy\nupdate 0\ncalm 30\naway\ncalm 9\nask GET /\nshow\nclose 0 1\ncalm 3",
		"ask GET /\nask GET /\ndrop 4\nprior 0 u=1\nlose\nshow\ncalm 60\nshow", strings.Repeat("show\n", 101), strings.Repeat("x", 20001),
	}
}

func TestP1WorldKeepsNothing(t *testing.T) {
	runs := worldRuns()
	checkKeepsNothing(t, func() string {
		var told strings.Builder
		for _, run := range runs {
			told.WriteString(toldWorldWhole(impl.WorldRun(run.setup, run.ops)))
		}
		for _, text := range worldScripts() {
			told.WriteString(impl.RunScript(text))
		}
		return told.String()
	})
}

// A text that is answered shares no memory with the one that was handed in.
func TestP1ScriptMemory(t *testing.T) {
	for _, text := range append(worldScripts(), "bad", "show\n", "ok 0", "end 0 0") {
		text = built(text)
		out := impl.RunScript(text)
		checkTextsOwn(t, "RunScript", []string{text}, []string{out})
		if again := impl.RunScript(text); again != out || share(again, out) {
			t.Errorf("RunScript(%.50q) answers %q, then %q", text, out, again)
		}
	}
}

// Worlds at the same time know nothing of each other.
func TestP1WorldsAtOnce(t *testing.T) {
	runs := worldRuns()
	var want, scripts []string
	for _, run := range runs {
		want = append(want, toldWorldWhole(impl.WorldRun(run.setup, run.ops)))
	}
	for _, text := range worldScripts() {
		scripts = append(scripts, impl.RunScript(text))
	}
	var all sync.WaitGroup
	for worker := range 6 {
		all.Go(func() {
			for i := range runs {
				at := (i + 5*worker) % len(runs)
				if got := toldWorldWhole(impl.WorldRun(runs[at].setup, runs[at].ops)); got != want[at] {
					t.Errorf("world %d answers another beside others", at)
				}
				script := (i + worker) % len(scripts)
				if got := impl.RunScript(worldScripts()[script]); got != scripts[script] {
					t.Errorf("script %d answers another beside others", script)
				}
			}
		})
	}
	all.Wait()
}

// All goroutines have ended when the call answers. With one processor those that have not are there still.
func TestP1WorldGoroutinesHaveEnded(t *testing.T) {
	defer runtime.GOMAXPROCS(runtime.GOMAXPROCS(1))
	calls := []func(){}
	for _, run := range worldRuns()[:8] {
		calls = append(calls, func() { impl.WorldRun(run.setup, run.ops) })
	}
	for _, text := range worldScripts() {
		calls = append(calls, func() { impl.RunScript(text) })
	}
	before, left := runtime.NumGoroutine(), 0
	for range 20 {
		for _, call := range calls {
			call()
			left += way(runtime.NumGoroutine() > before)
		}
	}
	// One that has told that it is done may be stopped just ahead of its end, but not often.
	if left > len(calls)*2 {
		t.Errorf("behind %d of %d calls goroutines are left", left, 20*len(calls))
	}
}

// Of a script that is refused nothing runs but what sends its lines: that too has ended.
func TestP1ScriptGoroutinesHaveEnded(t *testing.T) {
	defer runtime.GOMAXPROCS(runtime.GOMAXPROCS(1))
	before, left := runtime.NumGoroutine(), 0
	for range 200 {
		impl.RunScript(strings.Repeat("show\n", 101))
		left += way(runtime.NumGoroutine() > before)
	}
	if left > 20 {
		t.Errorf("behind %d of 200 scripts goroutines are left", left)
	}
}

func TestP1WorldTakesAnySetup(t *testing.T) {
	for _, v := range []int{math.MinInt, math.MinInt + 1, -1, 0, 1, 2, 3, 63, 64, 65, 1200, 2000, 4096, 4097, 16384, maxTime, maxVar, math.MaxInt} {
		mustEnd(t, fmt.Sprintf("WorldRun with %d", v), func() {
			eachWorld(t, func(t *testing.T, s impl.WorldSetup) { checkWorld(t, s, worldAsks()...) },
				func(s *impl.WorldSetup) { s.Link.Cc = v },
				func(s *impl.WorldSetup) { s.Link.Versions = []int{v} },
				func(s *impl.WorldSetup) { s.Link.ServerVersions = []int{1, v} },
				func(s *impl.WorldSetup) { s.Link.Client.Idle, s.Link.Server.Size = v, v },
				func(s *impl.WorldSetup) { s.Link.Server.TwoWay, s.Link.Client.OneWay = v, v },
				func(s *impl.WorldSetup) { s.Link.Server.OneWay, s.Link.Client.TwoWay = v, v },
				func(s *impl.WorldSetup) { s.Talk.Blocked, s.Talk.Piece = v, v },
				func(s *impl.WorldSetup) { s.Talk.ClientTable, s.Talk.ServerTable = v, 0 },
				func(s *impl.WorldSetup) { s.Talk.ServerTable, s.Talk.ClientTable = v, 0 },
				func(s *impl.WorldSetup) { s.Talk.Routes = []impl.Route{{Method: "GET", Path: "/", Kind: v, Status: v}} },
			)
		})
	}
}

// Every pair of operations: nothing panics and all ends.
func TestP1WorldEveryFewOperations(t *testing.T) {
	choices := slices.Concat(says(talkEcho("ab"), talkDrop(0), talkDrop(4), talkAway(), talkPrior(0, "u=1")),
		does(linkDeliver(0), linkDeliver(5), linkDeliver(8), linkDeliver(12), linkSpoil(5, 11, 1), linkTick(2000000), linkClose(0, 1), linkClose(1, 1), linkRebind(), linkUpdate(0), linkUpdate(1), linkCalm(9), linkLose()))
	for _, ahead := range [][]impl.WorldOp{nil, append(says(talkEcho("x")), onLink(linkCalm(1))), append(does(linkCalm(1)), says(talkEcho("x"))...)} {
		eachOp(2, choices, ahead, func(ops []impl.WorldOp) {
			ops = append(slices.Clone(ops), calms())
			out, _ := checkWorld(t, plainWorld(), ops...)
			checkWorldBook(t, plainWorld(), ops, out)
		})
	}
}

// The greatest worlds end.
func TestP1GreatWorldsEnd(t *testing.T) {
	s := wideWorld()
	s.Talk.Piece = 1
	ops := slices.Repeat(says(talkEcho(strings.Repeat("z", 8192), "priority", "i")), 16)
	mustEnd(t, "WorldRun", func() {
		whole := append(ops, slices.Repeat([]impl.WorldOp{calms()}, 84)...)
		out := impl.WorldRun(s, whole)
		checkWorldBook(t, s, whole, out)
		if doneOf(out) == 0 {
			t.Errorf("%s", toldWorldOut(out))
		}
	})
	long := strings.Repeat("a", 1<<20)
	wide := impl.Request{Method: long, Scheme: long, Authority: long, Path: "/" + long, Fields: slices.Repeat(pairsOf(long, long), 100)}
	mustEnd(t, "WorldRun", func() {
		ops := []impl.WorldOp{{Kind: 1, Talk: impl.TalkOp{Kind: impl.TAsk, Request: wide, Body: []byte(long), Text: long}}, {Kind: 1, Talk: impl.TalkOp{Kind: impl.TPrior, Text: long}}, {Kind: 2, Link: impl.LinkOp{Kind: impl.LLose, Data: []byte(long)}}}
		out, _ := checkWorld(t, plainWorld(), ops...)
		if !slices.Equal(worldCodes(out), []int{1, 1, 0}) {
			t.Errorf("%v", worldCodes(out))
		}
		refusesWorld(t, worldWith(func(s *impl.WorldSetup) { s.Link.Shared, s.Link.Names = []byte(long), []string{long} }), nil, impl.ErrBad)
	})
}
