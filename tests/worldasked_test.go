package tests

import (
	"bytes"
	"fmt"
	"maps"
	"regexp"
	"slices"
	"strconv"
	"strings"
	"testing"

	"loop.example/g00012/impl"
)

// The second program of chapter 18, over those of chapters 14 and 17, and what holds the runs against it.

type askedWorld struct {
	link *askedLink
	talk *askedTalk
	// Of what each side has written in the talk, on each stream: how many bytes were handed on, and the end.
	handed             [2]map[int]int
	handedEnd, cameEnd [2]map[int]bool
	met                map[string]int
}

func newAskedWorld(s impl.WorldSetup) *askedWorld {
	w := &askedWorld{link: newAskedLink(s.Link), talk: newAskedTalk(s.Talk), met: map[string]int{}}
	for side, e := range w.link.ends {
		w.handed[side], w.handedEnd[side], w.cameEnd[side] = map[int]int{}, map[int]bool{}, map[int]bool{}
		e.carry = func() { w.carry(side) }
	}
	return w
}

func (w *askedWorld) carry(side int) {
	for again := true; again; {
		for _, id := range slices.Sorted(maps.Keys(w.talk.peers[side].halves)) {
			w.handOn(side, id)
		}
		again = w.readAll(side)
		for side == 1 && w.talk.turn() {
			again = true
		}
	}
}

func (w *askedWorld) handOn(side, id int) {
	e, h := w.link.ends[side], w.talk.half(side, id)
	if id%2 == side && !e.flow.open[id] {
		obs := e.flow.run(opens(id%4 >= 2))
		if obs.Code == impl.ErrLimit {
			w.met["a stream waits"]++
			return
		}
		if obs.Code != impl.OK || obs.Id != id {
			panic(fmt.Sprintf("opened %d with code %d for %d", obs.Id, obs.Code, id))
		}
	}
	out, _ := e.parts(id)
	if rest := h.all[w.handed[side][id]:]; len(rest) > 0 {
		if out.do(impl.SendOp{Kind: impl.SWrite, Data: rest}).Code != impl.OK {
			w.met["no room on a stream"]++
			return
		}
		w.handed[side][id] = len(h.all)
	}
	if h.end && !w.handedEnd[side][id] {
		w.handedEnd[side][id] = true
		if out.do(finishOp()).Code != impl.OK {
			panic("an end that can't be")
		}
	}
}

// readAll tells whether a byte or an end was brought.
func (w *askedWorld) readAll(side int) bool {
	e, some := w.link.ends[side], false
	for _, id := range slices.Sorted(maps.Keys(e.flow.open)) {
		if !e.flow.mayGet(id) {
			continue
		}
		obs := e.onSide(linkRead(side, id, 1<<40))
		end := obs.End && !w.cameEnd[side][id]
		if obs.Code != impl.OK || len(obs.Data) == 0 && !end {
			continue
		}
		some = true
		w.cameEnd[side][id] = end
		h := w.talk.half(1-side, id)
		// Promise 16: what is read is a beginning of what was written, and the end comes with all of it.
		if !bytes.HasPrefix(h.all[h.came:], obs.Data) || end && (!h.end || h.came+len(obs.Data) != len(h.all)) {
			panic("read is what was not written")
		}
		h.came += len(obs.Data)
		h.endCame = h.endCame || end
		w.talk.looksAt(side, id, obs.Data, end)
	}
	return some
}

// answer is an operation, without what is told behind all of them.
func (w *askedWorld) answer(op impl.WorldOp) (int, int) {
	switch {
	case op.Kind == 1 && slices.Contains([]int{impl.TAsk, impl.TDrop, impl.TGoaway, impl.TPrior}, op.Talk.Kind):
		obs := w.talk.run(op.Talk)
		if e := w.link.ends[way(op.Talk.Kind == impl.TGoaway)]; obs.Code == impl.OK && e.state == 1 {
			e.speak()
		}
		return obs.Code, obs.Id
	case op.Kind == 2 && slices.Contains([]int{impl.LDeliver, impl.LSpoil, impl.LTick, impl.LClose, impl.LRebind, impl.LUpdate, impl.LCalm, impl.LLose}, op.Link.Kind):
		obs := w.link.answer(op.Link)
		return obs.Code, obs.Id
	}
	return impl.ErrBad, 0
}

func (w *askedWorld) run(op impl.WorldOp) impl.WorldObs {
	before := len(w.link.air)
	code, id := w.answer(op)
	return impl.WorldObs{Code: code, Id: id, Sent: len(w.link.air) - before, Time: w.link.now, State0: w.link.ends[0].state, State1: w.link.ends[1].state}
}

func worldSetupOK(s impl.WorldSetup) bool {
	return linkSetupOK(s.Link) && talkSetupOKAsked(s.Talk) && s.Link.Client.OneWay >= 3 && s.Link.Server.OneWay >= 3 && s.Link.Server.TwoWay >= 1
}

func worldAsked(s impl.WorldSetup, ops []impl.WorldOp) (impl.WorldOut, *askedWorld) {
	if len(ops) > 100 {
		return impl.WorldOut{Code: impl.ErrLong}, nil
	}
	if !worldSetupOK(s) {
		return impl.WorldOut{Code: impl.ErrBad}, nil
	}
	w := newAskedWorld(s)
	var out impl.WorldOut
	for _, op := range ops {
		out.Obs = append(out.Obs, w.run(op))
	}
	out.Replies, out.Talk0, out.Talk1 = w.talk.replies, w.talk.peers[0].code, w.talk.peers[1].code
	out.Client, out.Server = w.link.ends[0].told(), w.link.ends[1].told()
	return out, w
}

func sameWorld(a, b impl.WorldOut) bool {
	return a.Code == b.Code && slices.Equal(a.Obs, b.Obs) && slices.EqualFunc(a.Replies, b.Replies, sameReply) &&
		a.Talk0 == b.Talk0 && a.Talk1 == b.Talk1 && a.Client == b.Client && a.Server == b.Server
}

func toldWorldOp(op impl.WorldOp) string {
	switch op.Kind {
	case impl.WTalk:
		return "talk: " + toldTalkOp(op.Talk)
	case impl.WLink:
		return "link: " + toldLinkOp(op.Link)
	}
	return fmt.Sprintf("kind %d: talk %s, link %s", op.Kind, toldTalkOp(op.Talk), toldLinkOp(op.Link))
}

func toldWorldOut(o impl.WorldOut) string {
	lines := []string{fmt.Sprintf("code %d, talk %d %d", o.Code, o.Talk0, o.Talk1)}
	for _, r := range o.Replies {
		lines = append(lines, toldReply(r))
	}
	return strings.Join(append(lines, fmt.Sprintf("client %+v", o.Client), fmt.Sprintf("server %+v", o.Server)), "\n    ")
}

// toldWorld tells a run up to the first answer that is another one.
func toldWorld(s impl.WorldSetup, ops []impl.WorldOp, got, want impl.WorldOut) string {
	lines := []string{fmt.Sprintf("%d operations with %+v, tables %d %d, blocked %d, piece %d", len(ops), s.Link, s.Talk.ClientTable, s.Talk.ServerTable, s.Talk.Blocked, s.Talk.Piece)}
	for i := range min(len(ops), len(got.Obs), len(want.Obs)) {
		lines = append(lines, fmt.Sprintf("%d %s", i, toldWorldOp(ops[i])))
		if got.Obs[i] != want.Obs[i] {
			lines = append(lines, fmt.Sprintf("  got  %+v", got.Obs[i]), fmt.Sprintf("  want %+v", want.Obs[i]))
			return strings.Join(lines, "\n")
		}
	}
	return strings.Join(append(lines, "got "+toldWorldOut(got), "want "+toldWorldOut(want)), "\n")
}

func checkWorldIs(t *testing.T, s impl.WorldSetup, ops []impl.WorldOp, want impl.WorldOut) {
	t.Helper()
	if got := impl.WorldRun(s, ops); !sameWorld(got, want) {
		t.Errorf("WorldRun: %s", toldWorld(s, ops, got, want))
	}
}

// checkWorld holds a run against the second program; both are given back.
func checkWorld(t *testing.T, s impl.WorldSetup, ops ...impl.WorldOp) (impl.WorldOut, *askedWorld) {
	t.Helper()
	got := impl.WorldRun(s, ops)
	want, w := worldAsked(s, ops)
	if !sameWorld(got, want) {
		t.Fatalf("WorldRun: %s", toldWorld(s, ops, got, want))
	}
	return got, w
}

// checkWorldEach runs each beginning too: no answer hangs on what comes behind it.
func checkWorldEach(t *testing.T, s impl.WorldSetup, ops ...impl.WorldOp) (impl.WorldOut, *askedWorld) {
	t.Helper()
	for n := range ops {
		checkWorld(t, s, ops[:n]...)
	}
	return checkWorld(t, s, ops...)
}

func refusesWorld(t *testing.T, s impl.WorldSetup, ops []impl.WorldOp, code int) {
	t.Helper()
	checkWorld(t, s, ops...)
	checkWorldIs(t, s, ops, impl.WorldOut{Code: code})
}

// Scripts.

var (
	askLine   = regexp.MustCompile(`^ask ([^ ]+) ([^ ]+)( [^ ]+)?$`)
	priorLine = regexp.MustCompile(`^prior ([0-9]{1,9}) ([^ ]+)$`)
	numbered  = regexp.MustCompile(`^[a-z]+( [0-9]{1,9})*$`)
)

// scriptWorld is the setup of the chapter, written out.
func scriptWorld() impl.WorldSetup {
	p := impl.Params{Idle: 30000000, Size: 1500, ConnWindow: 8000, StreamWindow: 3000, TwoWay: 4, OneWay: 4, AckDelay: 0, Ids: 2}
	return impl.WorldSetup{
		Link: impl.LinkSetup{
			Shared: []byte{1, 2, 3, 4, 5, 6, 7, 8, 9, 10, 11, 12, 13, 14, 15, 16}, Seed: []byte{101, 102, 103, 104, 105, 106, 107, 108, 109, 110, 111, 112, 113, 114, 115, 116},
			Versions: []int{1}, ServerVersions: []int{1}, Names: []string{"hyper"}, ServerNames: []string{"hyper"}, Client: p, Server: p, Cc: 1,
		},
		Talk: impl.TalkSetup{
			Routes: []impl.Route{
				{Method: "GET", Path: "/", Kind: 1, Text: "home"}, {Method: "POST", Path: "/echo", Kind: 2}, {Method: "POST", Path: "/count", Kind: 3},
				{Method: "GET", Path: "/part/*", Kind: 4}, {Method: "DELETE", Path: "/gone", Kind: 5, Status: 204},
			},
			ClientTable: 400, ServerTable: 400, Blocked: 2, Piece: 500,
		},
	}
}

// scriptLine is what a line means: an operation, show, bad, or nothing.
type scriptLine struct {
	op              impl.WorldOp
	show, bad, none bool
}

// scriptLineAsked goes by the line with its blanks laid together.
func scriptLineAsked(line string) scriptLine {
	line = strings.Trim(regexp.MustCompile(` +`).ReplaceAllString(line, " "), " ")
	if line == "" {
		return scriptLine{none: true}
	}
	if line == "show" {
		return scriptLine{show: true}
	}
	if m := askLine.FindStringSubmatch(line); m != nil {
		op := talkAsk(m[1], m[2], strings.TrimPrefix(m[3], " "))
		return scriptLine{op: onTalk(op)}
	}
	if m := priorLine.FindStringSubmatch(line); m != nil {
		return scriptLine{op: onTalk(talkPrior(numberAsked(m[1]), m[2]))}
	}
	if numbered.MatchString(line) {
		words := strings.Split(line, " ")
		var n []int
		for _, word := range words[1:] {
			n = append(n, numberAsked(word))
		}
		if op, ok := numberedAsked(fmt.Sprint(words[0], " ", len(n)), append(n, 0, 0, 0)); ok {
			return scriptLine{op: op}
		}
	}
	return scriptLine{bad: true}
}

func numberAsked(word string) int {
	n, err := strconv.Atoi(word)
	if err != nil {
		panic(err)
	}
	return n
}

// numberedAsked knows a command by its name and how many numbers stand behind it.
func numberedAsked(name string, n []int) (impl.WorldOp, bool) {
	switch name {
	case "drop 1":
		return onTalk(talkDrop(n[0])), true
	case "away 0":
		return onTalk(talkAway()), true
	case "deliver 1":
		return onLink(linkDeliver(n[0])), true
	case "spoil 3":
		return onLink(linkSpoil(n[0], n[1], n[2])), true
	case "tick 1":
		return onLink(linkTick(n[0])), true
	case "calm 1":
		return onLink(linkCalm(n[0])), true
	case "lose 0":
		return onLink(linkLose()), true
	case "rebind 0":
		return onLink(linkRebind()), true
	case "update 1":
		return onLink(linkUpdate(n[0])), true
	case "close 2":
		return onLink(linkClose(n[0], n[1])), true
	}
	return impl.WorldOp{}, false
}

func onTalk(op impl.TalkOp) impl.WorldOp { return impl.WorldOp{Kind: impl.WTalk, Talk: op} }

func onLink(op impl.LinkOp) impl.WorldOp { return impl.WorldOp{Kind: impl.WLink, Link: op} }

func answerAskedLine(op impl.WorldOp, obs impl.WorldObs) string {
	switch {
	case obs.Code != impl.OK:
		return fmt.Sprintf("error %d\n", obs.Code)
	case op.Kind == impl.WLink:
		return fmt.Sprintf("ok %d %d %d\n", obs.Sent, obs.State0, obs.State1)
	case op.Talk.Kind == impl.TAsk:
		return fmt.Sprintf("ok %d\n", obs.Id)
	}
	return "ok\n"
}

func shownAsked(o impl.WorldOut) string {
	var b strings.Builder
	for _, r := range o.Replies {
		fmt.Fprintf(&b, "reply %d %d %d %d %d\n", r.Id, r.Code, r.Status, way(r.Done), len(r.Body))
	}
	fmt.Fprintf(&b, "end %d %d\n", o.Talk0, o.Talk1)
	return b.String()
}

// scriptAsked is what a script is to answer, by runs of WorldRun: a show is answered by that of all operations ahead of it.
func scriptAsked(text string, run func(ops []impl.WorldOp) impl.WorldOut) string {
	if len(text) > 20000 {
		return ""
	}
	var lines []scriptLine
	var ops []impl.WorldOp
	count := 0
	for _, line := range strings.Split(text, "\n") {
		read := scriptLineAsked(line)
		lines = append(lines, read)
		if !read.none && !read.bad {
			count++
		}
		if !read.none && !read.bad && !read.show {
			ops = append(ops, read.op)
		}
	}
	if count > 100 {
		return ""
	}
	all, done := run(ops), 0
	var out strings.Builder
	for _, line := range lines {
		switch {
		case line.none:
		case line.bad:
			out.WriteString("bad\n")
		case line.show:
			out.WriteString(shownAsked(run(ops[:done])))
		default:
			out.WriteString(answerAskedLine(line.op, all.Obs[done]))
			done++
		}
	}
	return out.String()
}

// checkScript holds a script against the program's own WorldRun, and gives the lines of the answer.
func checkScript(t *testing.T, lines ...string) []string {
	t.Helper()
	text := strings.Join(lines, "\n")
	got := impl.RunScript(text)
	want := scriptAsked(text, func(ops []impl.WorldOp) impl.WorldOut { return impl.WorldRun(scriptWorld(), ops) })
	if got != want {
		t.Fatalf("RunScript of %.2000q:\n%s\nwant\n%s", text, got, want)
	}
	return strings.Split(strings.TrimSuffix(got, "\n"), "\n")
}
