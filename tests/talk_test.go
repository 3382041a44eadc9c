package tests

import (
	"fmt"
	"math"
	"slices"
	"strings"
	"testing"

	"loop.example/g00012/impl"
)

func plainTalk() impl.TalkSetup {
	return impl.TalkSetup{Routes: someRoutes(), ClientTable: 400, ServerTable: 400, Blocked: 2, Piece: 5}
}

// talkWith is a plain talk with other tables, Blocked and Piece.
func talkWith(table, blocked, piece int) impl.TalkSetup {
	return impl.TalkSetup{Routes: someRoutes(), ClientTable: table, ServerTable: table, Blocked: blocked, Piece: piece}
}

func talkAsk(method, path, body string, fields ...string) impl.TalkOp {
	r := aRequest(method, path)
	r.Fields = pairsOf(fields...)
	return impl.TalkOp{Kind: impl.TAsk, Request: r, Body: []byte(body)}
}

func talkEcho(body string, fields ...string) impl.TalkOp {
	return talkAsk("POST", "/echo", body, fields...)
}

// talkRoot asks for its body with nothing but the fixed table's fields ahead of its own.
func talkRoot(body string, fields ...string) impl.TalkOp {
	return talkAsk("POST", "/", body, fields...)
}

func talkMove(side, id, n int) impl.TalkOp {
	return impl.TalkOp{Kind: impl.TMove, Side: side, Id: id, N: n}
}

// talkMoves brings all that side has written on these streams, in this order.
func talkMoves(side int, ids ...int) []impl.TalkOp {
	var ops []impl.TalkOp
	for _, id := range ids {
		ops = append(ops, talkMove(side, id, math.MaxInt))
	}
	return ops
}

func talkAll() impl.TalkOp        { return impl.TalkOp{Kind: impl.TAll} }
func talkTurn() impl.TalkOp       { return impl.TalkOp{Kind: impl.TTurn} }
func talkDrop(id int) impl.TalkOp { return impl.TalkOp{Kind: impl.TDrop, Id: id} }
func talkAway() impl.TalkOp       { return impl.TalkOp{Kind: impl.TGoaway} }
func talkPrior(id int, text string) impl.TalkOp {
	return impl.TalkOp{Kind: impl.TPrior, Id: id, Text: text}
}

func talkRaw(side, id int, b ...byte) impl.TalkOp {
	return impl.TalkOp{Kind: impl.TRaw, Side: side, Id: id, Body: b}
}

func talkRawEnd(side, id int, b ...byte) impl.TalkOp {
	return impl.TalkOp{Kind: impl.TRaw, Side: side, Id: id, Body: b, Text: "end"}
}

func done(id, status int, content string) impl.Reply {
	return impl.Reply{Id: id, Status: status, Fields: pairsOf("content-length", fmt.Sprint(len(content))), Body: []byte(content), Done: true}
}

func failed(id, code int) impl.Reply { return impl.Reply{Id: id, Code: code} }

func open(id int) impl.Reply { return impl.Reply{Id: id} }

// checkReplies runs a talk of which no end meets an error, and each beginning of it.
func checkReplies(t *testing.T, s impl.TalkSetup, ops []impl.TalkOp, want ...impl.Reply) impl.TalkOut {
	t.Helper()
	out := checkEnds(t, s, ops, 0, 0)
	if !slices.EqualFunc(out.Replies, want, sameReply) {
		t.Errorf("TalkRun:\n    %s\n  want\n    %s\n  of %s", toldTalkOut(out), toldTalkOut(impl.TalkOut{Replies: want}), toldTalk(s, ops))
	}
	return out
}

// checkEnds asks which errors the ends have met.
func checkEnds(t *testing.T, s impl.TalkSetup, ops []impl.TalkOp, client, server int) impl.TalkOut {
	t.Helper()
	checkTalkEach(t, s, ops)
	out := impl.TalkRun(s, ops)
	if out.Code != impl.OK || out.Client != client || out.Server != server {
		t.Errorf("code %d, client %d, server %d, want client %d, server %d, of %s", out.Code, out.Client, out.Server, client, server, toldTalk(s, ops))
	}
	return out
}

func talkCodes(out impl.TalkOut) []int {
	var codes []int
	for _, obs := range out.Obs {
		codes = append(codes, obs.Code)
	}
	return codes
}

// checkLast asks the code of the last operation; beside one no Id stands.
func checkLast(t *testing.T, s impl.TalkSetup, code int, ops ...impl.TalkOp) {
	t.Helper()
	checkTalkAsked(t, s, ops)
	out := impl.TalkRun(s, ops)
	if got := out.Obs[len(ops)-1]; got.Code != code || code != impl.OK && got.Id != 0 {
		t.Errorf("the last answer is %+v, want code %d, of %s", got, code, toldTalk(s, ops))
	}
}

func TestP23TalksWrittenOut(t *testing.T) {
	for _, s := range []impl.TalkSetup{plainTalk(), talkWith(0, 0, 1), talkWith(4096, 64, 4096), talkWith(100, 0, 7), talkWith(0, 5, 3)} {
		out := checkReplies(t, s, []impl.TalkOp{
			talkAsk("GET", "/", ""), talkEcho("hello there", "x-a", "1"), talkAsk("POST", "/count", "123456789012"), talkAsk("GET", "/part/some?more", "", "x-a", "1", "x-b", "2"), talkAll(),
			talkAsk("DELETE", "/gone", "why", "x-a", "1"), talkAsk("PUT", "/", "x"), talkAsk("GET", "/nowhere", ""), talkEcho("", "x-b", "2", "x-a", "1"), talkAsk("GET", "/long", "", "x-c", "3"), talkAll(), talkAll(),
			talkEcho("again", "x-a", "1", "x-b", "2", "x-c", "3"), talkAll(),
		},
			done(0, 200, "home"), done(4, 200, "hello there"), done(8, 200, "12"), done(12, 200, "some"),
			done(16, 204, ""), done(20, 405, ""), done(24, 404, ""), done(28, 200, ""), done(32, 200, strings.Repeat("long ", 200)), done(36, 200, "again"))
		for i, id := range []int{0, 4, 8, 12, 0, 16, 20, 24, 28, 32, 0, 0, 36, 0} {
			if out.Obs[i] != (impl.TalkObs{Id: id}) {
				t.Errorf("answer %d is %+v, want Id %d", i, out.Obs[i], id)
			}
		}
	}
	// Nothing is answered before something has come.
	checkReplies(t, plainTalk(), []impl.TalkOp{talkAsk("GET", "/", ""), talkEcho("x")}, open(0), open(4))
	checkReplies(t, plainTalk(), nil)
	checkReplies(t, plainTalk(), []impl.TalkOp{talkAll(), talkAll()})
}

func TestTalkSetups(t *testing.T) {
	ops := []impl.TalkOp{talkEcho("some", "x-a", "b"), talkAll(), talkEcho("more", "x-a", "b"), talkAll()}
	want := []impl.Reply{done(0, 200, "some"), done(4, 200, "more")}
	for _, c := range []struct {
		field       func(s *impl.TalkSetup) *int
		least, most int
	}{
		{func(s *impl.TalkSetup) *int { return &s.ClientTable }, 0, 4096}, {func(s *impl.TalkSetup) *int { return &s.ServerTable }, 0, 4096},
		{func(s *impl.TalkSetup) *int { return &s.Blocked }, 0, 64}, {func(s *impl.TalkSetup) *int { return &s.Piece }, 1, 4096},
	} {
		for _, v := range append(oddInts(), c.least, c.least+1, c.least-1, c.most-1, c.most, c.most+1) {
			s := plainTalk()
			*c.field(&s) = v
			if inRange(v, c.least, c.most) {
				checkReplies(t, s, ops, want...)
				continue
			}
			checkTalk(t, s, ops, impl.TalkOut{Code: impl.ErrBad})
			checkTalk(t, s, nil, impl.TalkOut{Code: impl.ErrBad})
			// Too many operations come first.
			checkTalk(t, s, make([]impl.TalkOp, 201), impl.TalkOut{Code: impl.ErrLong})
		}
	}
	both := plainTalk()
	both.ClientTable, both.ServerTable = 4096, 0
	checkReplies(t, both, ops, want...)
	both.ClientTable, both.ServerTable = 0, 4096
	checkReplies(t, both, ops, want...)
	checkTalk(t, impl.TalkSetup{}, nil, impl.TalkOut{Code: impl.ErrBad})
	checkTalk(t, impl.TalkSetup{Piece: 1}, nil, impl.TalkOut{})
	checkReplies(t, impl.TalkSetup{Piece: 1}, ops, done(0, 404, ""), done(4, 404, ""))
}

func TestTalkHowManyOps(t *testing.T) {
	for _, n := range []int{0, 1, 199, 200, 201, 202, 4096, 4097} {
		for _, kind := range []int{impl.TAll, impl.TTurn, impl.TAsk, 99} {
			ops := slices.Repeat([]impl.TalkOp{{Kind: kind}}, n)
			if n > 200 {
				checkTalk(t, plainTalk(), ops, impl.TalkOut{Code: impl.ErrLong})
				checkTalk(t, impl.TalkSetup{}, ops, impl.TalkOut{Code: impl.ErrLong})
				continue
			}
			out, _ := checkTalkAsked(t, plainTalk(), ops)
			if len(out.Obs) != n {
				t.Errorf("%d answers to %d operations", len(out.Obs), n)
			}
		}
	}
}

// talkEachKind is one operation of each kind that does something behind talkBegun, and answers OK.
func talkEachKind() []impl.TalkOp {
	return []impl.TalkOp{talkEcho("y"), talkMove(0, 0, 1), talkAll(), talkTurn(), talkDrop(4), talkAway(), talkPrior(0, "u=1"), talkRaw(0, 2, 33, 0)}
}

// talkBegun has one request whose content waits, and one of which nothing has come.
func talkBegun() []impl.TalkOp {
	return append([]impl.TalkOp{talkEcho("content"), talkEcho("other")}, talkMoves(0, 0)...)
}

func TestTalkKindsAndSides(t *testing.T) {
	for i, op := range talkEachKind() {
		if op.Kind != i+1 {
			t.Fatalf("kind %d stands at %d", op.Kind, i)
		}
		for _, side := range []int{-1, 0, 1, 2, math.MinInt, math.MaxInt, 1 << 32, 256} {
			op := op
			op.Side = side
			code := impl.OK
			switch {
			case !inRange(side, 0, 1):
				code = impl.ErrBad
			case side == 1 && op.Kind == impl.TRaw:
				// The server has not written there.
				code = impl.ErrBad
			}
			checkLast(t, plainTalk(), code, append(talkBegun(), op)...)
		}
	}
	for _, kind := range append(oddInts(), -1, 0, 9, 10) {
		if inRange(kind, 1, 8) {
			continue
		}
		for _, side := range []int{-1, 0, 1, 2} {
			checkLast(t, plainTalk(), impl.ErrBad, append(talkBegun(), impl.TalkOp{Kind: kind, Side: side, Id: 0, N: 1, Request: aRequest("GET", "/")})...)
		}
	}
}

// Every number that an operation has, at the edges of numbers.
func TestTalkOddNumbers(t *testing.T) {
	for _, op := range talkEachKind() {
		for _, field := range []func(op *impl.TalkOp) *int{
			func(op *impl.TalkOp) *int { return &op.Kind }, func(op *impl.TalkOp) *int { return &op.Side },
			func(op *impl.TalkOp) *int { return &op.Id }, func(op *impl.TalkOp) *int { return &op.N },
		} {
			for _, v := range append(oddInts(), -1, 5, 6, 7, 9, 10, 11, 12, 14) {
				op := op
				*field(&op) = v
				checkTalkAsked(t, plainTalk(), append(talkBegun(), op, talkAll()))
			}
		}
	}
}

func TestTalkHowManyAsks(t *testing.T) {
	var ops []impl.TalkOp
	var want []impl.Reply
	for i := range 16 {
		body := strings.Repeat("z", i)
		ops = append(ops, talkEcho(body, "x-n", fmt.Sprint(i)))
		want = append(want, done(4*i, 200, body))
	}
	out := checkReplies(t, plainTalk(), append(slices.Clone(ops), talkAll()), want...)
	for i, obs := range out.Obs[:16] {
		if obs != (impl.TalkObs{Id: 4 * i}) {
			t.Errorf("request %d: %+v", i, obs)
		}
	}
	checkLast(t, plainTalk(), impl.ErrLimit, append(slices.Clone(ops), talkEcho(""))...)
	// What was given up counts, and what is wrong with a request comes first.
	given := append(slices.Clone(ops), talkDrop(0), talkDrop(60), talkAll())
	checkLast(t, plainTalk(), impl.ErrLimit, append(slices.Clone(given), talkEcho(""))...)
	checkLast(t, plainTalk(), impl.ErrBad, append(slices.Clone(given), talkAsk("get", "/", ""))...)
	// The limit comes ahead of a goaway, and that ahead of a section that is too long.
	away := append(slices.Clone(given), talkAway(), talkAll())
	checkLast(t, plainTalk(), impl.ErrLimit, append(slices.Clone(away), talkEcho(""))...)
	checkLast(t, plainTalk(), impl.ErrLimit, append(slices.Clone(away), tooLong())...)
	checkLast(t, plainTalk(), impl.ErrCancel, talkAway(), talkAll(), tooLong())
	checkLast(t, plainTalk(), impl.ErrCancel, talkAway(), talkAll(), talkEcho(""))
	checkLast(t, plainTalk(), impl.ErrBad, talkAway(), talkAll(), talkAsk("get", "/", ""))
	checkLast(t, plainTalk(), impl.ErrLong, tooLong())
	checkLast(t, plainTalk(), impl.ErrLong, talkAll(), tooLong())
	// What was refused does not count.
	refused := slices.Repeat([]impl.TalkOp{talkAsk("get", "/", ""), tooLong()}, 20)
	checkReplies(t, plainTalk(), slices.Concat(refused, ops, []impl.TalkOp{talkAll()}), want...)
}

// tooLong has more bytes of fields than a section may have.
func tooLong() impl.TalkOp {
	op := talkEcho("body")
	for i := range 24 {
		op.Request.Fields = append(op.Request.Fields, aField("x-"+fmt.Sprint(i), strings.Repeat(string(rune('a'+i)), 1024)))
	}
	return op
}

// A request that is too long leaves nothing behind, not in the table either, though some of its fields would have come into it.
func TestTalkTooLongDoesNothing(t *testing.T) {
	long := tooLong()
	long.Request.Fields = append(pairsOf("x-short", "fits"), long.Request.Fields...)
	for _, s := range []impl.TalkSetup{plainTalk(), talkWith(4096, 64, 100), talkWith(0, 0, 1)} {
		for _, ops := range [][]impl.TalkOp{
			{long, talkEcho("a", "x-short", "fits"), talkAll()},
			{talkAll(), long, talkEcho("a", "x-short", "fits"), talkAll()},
			{talkAll(), long, talkAll(), talkEcho("a", "x-short", "fits"), talkMove(0, 0, 99), talkAll(), long, long},
		} {
			out := checkReplies(t, s, ops, done(0, 200, "a"))
			if at := slices.IndexFunc(out.Obs, func(o impl.TalkObs) bool { return o.Code != impl.OK }); out.Obs[at].Code != impl.ErrLong {
				t.Errorf("%+v", out.Obs)
			}
		}
	}
	// One that is not too long: as many fields as may be, and nearly as many bytes.
	most := talkEcho("b")
	most.Request = mostRequest()
	most.Request.Fields = most.Request.Fields[:58]
	checkReplies(t, plainTalk(), []impl.TalkOp{talkAll(), most, talkAll()}, done(0, 404, ""))
	near := tooLong()
	near.Request.Fields = near.Request.Fields[:15]
	checkReplies(t, plainTalk(), []impl.TalkOp{near, talkAll()}, done(0, 200, "body"))
}

func TestTalkRequestsThatAreNone(t *testing.T) {
	for _, r := range []impl.Request{{}, aRequest("", "/"), aRequest("get", "/"), aRequest("GET", ""), aRequest("GET", "a"), aRequest("GET", "/"+strings.Repeat("p", 200)), {Method: "GET", Path: "/"}, {Method: "GET", Scheme: "h1", Path: "/"}, {Method: "GET", Scheme: "https", Authority: " a", Path: "/"},
		{Method: "GET", Scheme: "https", Path: "/", Fields: pairsOf("connection", "x")}, {Method: "GET", Scheme: "https", Path: "/", Fields: pairsOf(":path", "/")}, {Method: "GET", Scheme: "https", Path: "/", Fields: fieldsOf(61)}, {Method: "GET", Scheme: "https", Path: "/", Fields: fieldsOf(65)}, {Method: "GET", Scheme: "https", Path: "/", Fields: pairsOf("content-length", "0", "content-length", "0")}} {
		out := checkReplies(t, plainTalk(), []impl.TalkOp{{Kind: impl.TAsk, Request: r}, talkAll()})
		if out.Obs[0] != (impl.TalkObs{Code: impl.ErrBad}) {
			t.Errorf("%s: %+v", toldRequest(r), out.Obs[0])
		}
	}
	for _, r := range []impl.Request{leastRequest(), {Method: "GET", Scheme: "ftp", Authority: "x y", Path: "/?q", Fields: fieldsOf(60)}} {
		checkLast(t, plainTalk(), impl.OK, impl.TalkOp{Kind: impl.TAsk, Request: r})
	}
}

func TestTalkHowManyBytes(t *testing.T) {
	for _, piece := range []int{1, 1000, 4096} {
		for _, n := range []int{0, 1, 8191, 8192} {
			body := string(rowOf(n, 7, 251))
			checkReplies(t, talkWith(400, 2, piece), []impl.TalkOp{talkEcho(body), talkAll()}, done(0, 200, body))
		}
	}
	for _, n := range []int{8193, 8194, 65537} {
		checkLast(t, plainTalk(), impl.ErrBad, talkEcho(strings.Repeat("x", n)))
		checkLast(t, plainTalk(), impl.ErrBad, talkEcho(strings.Repeat("x", n), "content-length", fmt.Sprint(n)))
	}
	for _, c := range []struct {
		body, length string
		code         int
	}{
		{"", "0", 0}, {"", "1", 1}, {"abc", "3", 0}, {"abc", "03", 0}, {"abc", "000000003", 0}, {"abc", "2", 1}, {"abc", "4", 1}, {"abc", "0", 1}, {"abc", "30", 1}, {"abc", "999999999", 1}, {"abc", "0000000003", 1}, {"abc", "", 1}, {"abc", "x", 1}, {"abc", "+3", 1}, {"abc", "-1", 1},
		{strings.Repeat("x", 8192), "8192", 0}, {strings.Repeat("x", 8192), "8191", 1}, {strings.Repeat("x", 8191), "8192", 1},
	} {
		op := talkEcho(c.body, "content-length", c.length)
		checkLast(t, plainTalk(), c.code, op)
		if c.code == impl.OK {
			checkReplies(t, plainTalk(), []impl.TalkOp{op, talkAll(), op, talkAll()}, done(0, 200, c.body), done(4, 200, c.body))
		}
	}
}

// A content goes in pieces both ways: of each length around a multiple of the piece just the bytes that it needs are written.
func TestP22ContentsByPieces(t *testing.T) {
	for _, piece := range []int{1, 2, 5, 64, 4096} {
		for _, n := range []int{0, 1, piece - 1, piece, piece + 1, 2*piece - 1, 2 * piece, 2*piece + 1} {
			if n > 8192 {
				continue
			}
			body := strings.Repeat("c", n)
			s := talkWith(0, 0, piece)
			pieces := (n + piece - 1) / piece
			ops := append([]impl.TalkOp{talkEcho(body)}, talkMoves(0, 0)...)
			for range pieces {
				ops = append(ops, talkTurn())
				checkLast(t, s, impl.OK, ops...)
			}
			// No turn more is there, and all of it and the end is written.
			checkLast(t, s, impl.ErrState, append(slices.Clone(ops), talkTurn())...)
			checkReplies(t, s, append(slices.Clone(ops), talkMoves(1, 0)...), done(0, 200, body))
			if pieces > 0 {
				checkReplies(t, s, append(ops[:len(ops)-1], talkMoves(1, 0)...), open(0))
			}
		}
	}
}

// How many bytes a request and its response have: the section, and each piece with its frame's two numbers.
func TestP23NothingAheadOfTheLastByte(t *testing.T) {
	for _, c := range []struct{ piece, n, bytes int }{{5, 0, 0}, {5, 1, 3}, {5, 4, 6}, {5, 5, 7}, {5, 6, 10}, {5, 10, 14}, {5, 11, 17}, {64, 63, 65}, {64, 64, 67}, {64, 65, 70}, {1, 4, 12}} {
		s := talkWith(0, 0, c.piece)
		// A frame's two bytes; need 0; :method and :scheme of the fixed table; the name of :path and a value of five bytes with its length.
		request := 2 + 1 + 1 + 1 + 1 + 1 + 5 + c.bytes
		ask := talkEcho(strings.Repeat("r", c.n))
		checkReplies(t, s, []impl.TalkOp{ask, talkMove(0, 0, request-1), talkTurn()}, open(0))
		checkLast(t, s, impl.ErrBad, ask, talkMove(0, 0, request-1), talkMove(1, 0, 1))
		checkLast(t, s, impl.OK, ask, talkMove(0, 0, request), talkMove(1, 0, 1))
		if c.n == 0 {
			continue
		}
		checkLast(t, s, impl.ErrState, ask, talkMove(0, 0, request-1), talkTurn())
		checkLast(t, s, impl.OK, ask, talkMove(0, 0, request), talkTurn())
		// The response: need 0, :status 200 of the fixed table, the name of content-length and its digits.
		response := 2 + 1 + 1 + 1 + 1 + len(fmt.Sprint(c.n)) + c.bytes
		ops := []impl.TalkOp{ask, talkMove(0, 0, request)}
		for range (c.n + c.piece - 1) / c.piece {
			ops = append(ops, talkTurn())
		}
		checkReplies(t, s, append(slices.Clone(ops), talkMove(1, 0, response-1)), open(0))
		checkReplies(t, s, append(slices.Clone(ops), talkMove(1, 0, response)), done(0, 200, strings.Repeat("r", c.n)))
	}
}
