package tests

import (
	"bytes"
	"fmt"
	"math"
	"slices"
	"strings"
	"sync"
	"testing"

	"loop.example/g00012/impl"
)

func builtRoutes(routes []impl.Route) []impl.Route {
	var list []impl.Route
	for _, r := range routes {
		r.Method, r.Path, r.Text = built(r.Method), built(r.Path), built(r.Text)
		list = append(list, r)
	}
	return list
}

func routeTexts(routes []impl.Route) []string {
	var texts []string
	for _, r := range routes {
		texts = append(texts, r.Method, r.Path, r.Text)
	}
	return texts
}

var markRoute = impl.Route{Method: "MARK", Path: "/mark", Kind: 1}

func TestP1MatchMemory(t *testing.T) {
	for _, routes := range [][]impl.Route{nil, someRoutes(), {aRoute("GET", "/*"), aRoute("GET", "/*/*")}, {{}}, make([]impl.Route, 17), slices.Repeat(someRoutes()[:4], 4)} {
		for _, path := range []string{"/", "/part/some", "/part/some?more", "/some", "/some/more", "/none/such/path", "", "a", "/" + strings.Repeat("p", 199)} {
			arg, method, path := amid(builtRoutes(routes), markRoute), built("GET"), built(path)
			mustEnd(t, "Match", func() {
				_, part, _ := impl.Match(arg.list, method, path)
				checkTextsOwn(t, "Match", append(routeTexts(arg.list), method, path), []string{part})
			})
			arg.check(t, "Match")
			checkMatchAsked(t, arg.list, method, path)
		}
	}
	// What stands behind the end of the list is no route.
	whole := []impl.Route{aRoute("GET", "/a"), aRoute("GET", "/b"), {}}
	refusesMatch(t, whole[:1], "GET", "/b", impl.ErrRoute)
	checkMatch(t, whole[:2], "GET", "/b", 1, "", impl.OK)
	refusesMatch(t, whole, "GET", "/b", impl.ErrBad)
}

func TestP1AnswerMemory(t *testing.T) {
	requests := append(memoryRequests(), aRequest("GET", "/"), aRequest("POST", "/echo"), aRequest("POST", "/count"), aRequest("GET", "/part/some"), aRequest("DELETE", "/gone"), aRequest("PUT", "/echo"))
	for _, routes := range [][]impl.Route{nil, someRoutes(), {{}}, make([]impl.Route, 17)} {
		for _, r := range requests {
			for _, body := range [][]byte{nil, []byte("a body"), zeroes(8192), zeroes(8193)} {
				arg, r := amid(builtRoutes(routes), markRoute), builtRequest(r)
				fields, content := amid(r.Fields, aField("mark", "behind")), amid(body, 0xee)
				r.Fields = fields.list
				ask := func() (impl.Response, []byte, int) { return impl.Answer(arg.list, r, content.list) }
				mustEnd(t, "Answer", func() { ask() })
				want, wantBody, wantCode := ask()
				want.Fields, wantBody = slices.Clone(want.Fields), slices.Clone(wantBody)
				got, gotBody, _ := ask()
				checkTextsOwn(t, "Answer", append(routeTexts(arg.list), requestTexts(r)...), textsOf(got.Fields))
				spoilAll(got.Fields, aField("spoilt", "spoilt"))
				if !bytes.Equal(gotBody, wantBody) {
					t.Errorf("the content changed with the fields")
				}
				spoilAll(gotBody, 0xdd)
				arg.check(t, "Answer")
				fields.check(t, "Answer")
				content.check(t, "Answer")
				checkAnswer(t, arg.list, r, content.list, want, wantBody, wantCode)
				// What was answered stays when the body changes.
				own := slices.Clone(content.list)
				_, gotBody, _ = impl.Answer(arg.list, r, own)
				spoilAll(own, 0x55)
				if !bytes.Equal(gotBody, wantBody) {
					t.Errorf("the content changed with the body that was handed in")
				}
			}
		}
	}
}

// fencedTalk is a setup and operations of which each list lies within a longer one.
type fencedTalk struct {
	setup  impl.TalkSetup
	ops    []impl.TalkOp
	whole  []impl.TalkOp
	before []impl.TalkOp
	routes fenced[impl.Route]
	fields []fenced[impl.Field]
	bodies []fenced[byte]
}

func fenceTalk(s impl.TalkSetup, ops []impl.TalkOp) *fencedTalk {
	f := &fencedTalk{setup: s, routes: amid(builtRoutes(s.Routes), markRoute)}
	f.setup.Routes = f.routes.list
	mark := impl.TalkOp{Kind: impl.TAsk, Text: "mark", Request: aRequest("GET", "/mark"), Body: []byte("mark")}
	f.whole = []impl.TalkOp{mark}
	for _, op := range ops {
		op.Request = builtRequest(op.Request)
		fields, body := amid(op.Request.Fields, aField("mark", "behind")), amid(op.Body, 0xee)
		op.Request.Fields, op.Body, op.Text = fields.list, body.list, built(op.Text)
		f.fields, f.bodies = append(f.fields, fields), append(f.bodies, body)
		f.whole = append(f.whole, op)
	}
	f.whole = append(f.whole, mark, mark)
	f.before = slices.Clone(f.whole)
	f.ops = f.whole[1 : 1+len(ops)]
	return f
}

func (f *fencedTalk) check(t *testing.T) {
	t.Helper()
	f.routes.check(t, "TalkRun")
	for i := range f.fields {
		f.fields[i].check(t, "TalkRun")
		f.bodies[i].check(t, "TalkRun")
	}
	for i, op := range f.whole {
		was := f.before[i]
		same := op.Kind == was.Kind && op.Side == was.Side && op.Id == was.Id && op.N == was.N && op.Text == was.Text && sameRequest(op.Request, was.Request) && sameList(op.Body, was.Body)
		if !same || cap(op.Request.Fields) != cap(was.Request.Fields) {
			t.Errorf("TalkRun wrote into its operations or behind their end")
		}
	}
}

// talkSpoils are, one by one, the lists of an answer, each to be written over with all the room behind it.
func talkSpoils(o impl.TalkOut) []func() {
	var all []func()
	for _, r := range o.Replies {
		all = append(all, func() { spoilAll(r.Fields, aField("spoilt", "spoilt")) }, func() { spoilAll(r.Body, 0xdd) })
	}
	return append(all, func() { spoilAll(o.Obs, impl.TalkObs{Code: -7, Id: -7}) }, func() { spoilAll(o.Replies, failed(-7, -7)) })
}

// talkParts tells each list of an answer alone, in the order of talkSpoils.
func talkParts(o impl.TalkOut) []string {
	var parts []string
	for _, r := range o.Replies {
		parts = append(parts, fmt.Sprintf("%q", r.Fields), fmt.Sprintf("%x", r.Body))
	}
	var heads []string
	for _, r := range o.Replies {
		heads = append(heads, fmt.Sprint(r.Id, r.Code, r.Status, r.Done, len(r.Fields), len(r.Body)))
	}
	return append(parts, fmt.Sprint(o.Obs), fmt.Sprint(heads))
}

// memoryTalks are such as do all kinds of things.
func memoryTalks() []struct {
	setup impl.TalkSetup
	ops   []impl.TalkOp
} {
	var list []struct {
		setup impl.TalkSetup
		ops   []impl.TalkOp
	}
	add := func(s impl.TalkSetup, ops ...impl.TalkOp) {
		list = append(list, struct {
			setup impl.TalkSetup
			ops   []impl.TalkOp
		}{s, ops})
	}
	talk := []impl.TalkOp{
		talkEcho("some content", "x-a", "1", "priority", "u=2, i"), talkAsk("GET", "/", "", "x-a", "1"), talkMove(0, 0, 7), talkPrior(0, "u=1"), talkAll(), talkRoot("more", "x-a", "1"), talkRoot("more", "x-a", "1", "x-b", "2"), talkRoot("more", "x-a", "1", "x-b", "2"), talkDrop(12), talkMove(0, 8, 99), talkTurn(), talkAway(), talkMove(1, 3, 99), talkRoot(""), tooLong(),
		talkAll(), talkRaw(1, 7, 64+1, 'a', 1, 'b'), talkRaw(0, 2, 33, 1, 7), talkRawEnd(1, 3), {Kind: 99, Body: []byte("none"), Request: plainRequest()}, talkAll(), talkRaw(0, 2, 4, 0), talkAll(), talkTurn(), talkDrop(0),
	}
	add(plainTalk())
	add(plainTalk(), talk...)
	add(talkWith(0, 0, 1), talk...)
	add(talkWith(4096, 64, 4096), talk...)
	add(impl.TalkSetup{}, talk...)
	add(plainTalk(), slices.Repeat(talk, 9)...)
	add(plainTalk(), talkEcho(strings.Repeat("x", 8192)), talkEcho(strings.Repeat("x", 8193)), talkEcho(strings.Repeat("x", 8192)), talkAll())
	for seed := range 12 {
		more := numbers(180000 + seed)
		s := drawnTalkSetup(&more)
		ops, _ := drawnTalk(&more, s, talkWish{drops: true, goaways: true, wrong: true, raws: seed%2 == 0}, 150)
		add(s, append(ops, talkAll())...)
	}
	return list
}

// Nothing is written into an argument nor behind its end, and what is done to an answer changes no argument, no other list and no later answer.
func TestP1TalkMemory(t *testing.T) {
	for i, talk := range memoryTalks() {
		f := fenceTalk(talk.setup, talk.ops)
		var want impl.TalkOut
		mustEnd(t, "TalkRun", func() { want = impl.TalkRun(f.setup, f.ops) })
		f.check(t)
		parts := talkParts(want)
		for at := range talkSpoils(want) {
			got := impl.TalkRun(f.setup, f.ops)
			if told := talkParts(got); !slices.Equal(told, parts) {
				t.Fatalf("talk %d answers another time\n%v\n%v", i, told, parts)
			}
			talkSpoils(got)[at]()
			if at < len(parts)-1 {
				for other, told := range talkParts(got) {
					if other != at && other < len(parts) && told != parts[other] {
						t.Errorf("talk %d: list %d changed with list %d", i, other, at)
					}
				}
			}
			f.check(t)
		}
		var given, told []string
		for _, op := range f.ops {
			given = append(given, append(requestTexts(op.Request), op.Text)...)
		}
		for _, r := range want.Replies {
			told = append(told, textsOf(r.Fields)...)
		}
		checkTextsOwn(t, "TalkRun", append(given, routeTexts(f.setup.Routes)...), told)
		checkTalkAsked(t, talk.setup, talk.ops)
	}
}

// What was handed in may change behind the call: the answer stays.
func TestP1TalkAnswersStay(t *testing.T) {
	for _, talk := range memoryTalks() {
		f := fenceTalk(talk.setup, talk.ops)
		out := impl.TalkRun(f.setup, f.ops)
		for _, op := range f.ops {
			spoilAll(op.Body, 0x55)
			spoilAll(op.Request.Fields, aField("spoilt", "spoilt"))
		}
		spoilAll(f.setup.Routes, markRoute)
		if want, _ := talkAsked(talk.setup, talk.ops); !sameTalk(out, want) {
			t.Errorf("changed with its arguments: %s", toldTalkOut(out))
		}
	}
}

func TestP1TalkKeepsNothing(t *testing.T) {
	checkKeepsNothing(t, func() string {
		var out strings.Builder
		for _, talk := range memoryTalks()[:8] {
			fmt.Fprintln(&out, toldTalkOut(impl.TalkRun(talk.setup, talk.ops)))
		}
		for _, method := range []string{"GET", "POST"} {
			for _, path := range []string{"/", "/echo", "/part/1", "/nowhere"} {
				at, part, code := impl.Match(someRoutes(), method, path)
				r, body, answerCode := impl.Answer(someRoutes(), aRequest(method, path), []byte("body"))
				fmt.Fprintln(&out, at, part, code, r, body, answerCode)
			}
		}
		return out.String()
	})
}

// Talks at the same time know nothing of each other.
func TestP1TalksAtOnce(t *testing.T) {
	talks := memoryTalks()[:10]
	var want []impl.TalkOut
	for _, talk := range talks {
		want = append(want, impl.TalkRun(talk.setup, talk.ops))
	}
	var all sync.WaitGroup
	for range 4 {
		for i, talk := range talks {
			all.Go(func() {
				if got := impl.TalkRun(talk.setup, talk.ops); !sameTalk(got, want[i]) {
					t.Errorf("talk %d answers another time: %s", i, toldTalkOut(got))
				}
			})
		}
	}
	all.Wait()
}

// What stands behind the end of a list is not of it.
func TestP1NothingBehindTheEndOfATalk(t *testing.T) {
	body := []byte("content and more")
	fields := pairsOf("x-a", "1", "upgrade", "x")
	ops := []impl.TalkOp{{Kind: impl.TAsk, Request: impl.Request{Method: "POST", Scheme: "https", Path: "/", Fields: fields[:1]}, Body: body[:7]}, talkAll(), talkDrop(0), talkAll()}
	s := plainTalk()
	checkReplies(t, s, ops[:2], done(0, 200, "content"))
	s.Routes = append(slices.Clone(s.Routes), impl.Route{})[:len(s.Routes)]
	checkReplies(t, s, ops[:2], done(0, 200, "content"))
	checkReplies(t, s, ops[:1], open(0))
	raw := talkRaw(0, 2, 33, 0, 4, 0)
	raw.Body = raw.Body[:2]
	checkReplies(t, s, []impl.TalkOp{raw, talkAll()})
}

// The greatest talks end.
func TestP1GreatTalksEnd(t *testing.T) {
	s := talkWith(4096, 64, 1)
	var ops []impl.TalkOp
	for range 16 {
		ops = append(ops, talkEcho(strings.Repeat("z", 8192), "priority", "i"))
	}
	mustEnd(t, "TalkRun", func() {
		out := impl.TalkRun(s, append(ops, talkAll()))
		for i, r := range out.Replies {
			if !sameReply(r, done(4*i, 200, strings.Repeat("z", 8192))) {
				t.Errorf("%s", toldReply(r))
			}
		}
	})
	long := strings.Repeat("a", 1<<20)
	wide := impl.Request{Method: long, Scheme: long, Authority: long, Path: "/" + long, Fields: slices.Repeat(pairsOf(long, long), 100)}
	mustEnd(t, "a call", func() {
		refusesMatch(t, []impl.Route{{Method: long, Path: "/" + long, Text: long, Kind: 1}}, long, "/"+long, impl.ErrBad)
		refusesAnswer(t, someRoutes(), wide, []byte(long), impl.ErrLong)
		refusesAnswer(t, someRoutes(), wide, nil, impl.ErrBad)
		checkTalk(t, s, []impl.TalkOp{{Kind: impl.TAsk, Request: wide, Body: []byte(long), Text: long}, {Kind: math.MinInt, Request: wide}, {Kind: impl.TPrior, Text: long}, {Kind: impl.TRaw, Id: 2, Body: []byte(long), Text: long}},
			impl.TalkOut{Obs: []impl.TalkObs{{Code: 1}, {Code: 1}, {Code: 1}, {Code: 1}}})
	})
}
