package tests

import (
	"math"
	"slices"
	"strings"
	"testing"

	"loop.example/g00012/impl"
)

func TestTalkRawsThatAreNone(t *testing.T) {
	s := plainTalk()
	for _, n := range []int{0, 1, 8191, 8192, 8193, 65537} {
		code := impl.OK
		if n > 8192 {
			code = impl.ErrBad
		}
		checkLast(t, s, code, talkRaw(0, 2, zeroes(n)...))
		checkLast(t, s, code, talkRawEnd(1, 11, zeroes(n)...))
	}
	for _, id := range append(oddInts(), 1, 2, 3, 5, 6, 7, 9, 10, 11, 12, 13, 14, 15, -2) {
		for side := range 2 {
			code := impl.ErrBad
			if id%4 == 2+side && inRange(id, 2, 11) {
				code = impl.OK
			}
			// That of a one-way stream of which nobody has written the first byte is not written by hand either.
			checkLast(t, s, code, talkRaw(side, id, 1))
			checkLast(t, s, code, talkRawEnd(side, id, 1))
			checkLast(t, s, code, talkRaw(side, id))
		}
	}
	// A request ends with what was asked; a response has not ended while content waits.
	ask := talkRoot("content")
	checkLast(t, s, impl.ErrBad, ask, talkRaw(0, 0))
	checkLast(t, s, impl.ErrBad, ask, talkRawEnd(0, 0))
	checkLast(t, s, impl.ErrBad, ask, talkRaw(1, 0))
	checkLast(t, s, impl.OK, append(arrived(ask), talkRaw(1, 0))...)
	checkLast(t, s, impl.OK, append(arrived(ask), talkTurn(), talkRaw(1, 0))...)
	checkLast(t, s, impl.ErrBad, append(arrived(ask), talkTurn(), talkTurn(), talkRaw(1, 0))...)
	checkLast(t, s, impl.ErrBad, append(arrived(talkRoot("")), talkRaw(1, 0))...)
	// Its end is written once, with the text that says so alone.
	for id, side := range map[int]int{2: 0, 6: 0, 10: 0, 3: 1, 7: 1, 11: 1} {
		checkLast(t, s, impl.ErrBad, talkRawEnd(side, id), talkRaw(side, id))
		checkLast(t, s, impl.ErrBad, talkRawEnd(side, id), talkRawEnd(side, id))
		for _, text := range []string{"", "END", "End", "end ", " end", "ends", "en", "end\x00"} {
			op := talkRaw(side, id)
			op.Text = text
			checkLast(t, s, impl.OK, op, talkRawEnd(side, id), talkAll())
			checkLast(t, s, impl.OK, op, op, talkRaw(side, id))
		}
	}
	checkLast(t, s, impl.ErrBad, append(arrived(ask), talkRawEnd(1, 0), talkRaw(1, 0))...)
}

// The control streams: what is written by hand there, and what the one who gets it meets.
func TestTalkRawOnControl(t *testing.T) {
	frame := func(f impl.HFrame) []byte { return hyperBytesAsked(f) }
	for _, c := range []struct {
		b              []byte
		client, server int // the error of the one who gets it
	}{
		{nil, 0, 0},
		{frame(impl.HFrame{Kind: 4}), 18, 18}, {frame(impl.HFrame{Kind: 4, Set: settings(1, 100)}), 18, 18},
		{frame(impl.HFrame{Kind: 0, Data: []byte("x")}), 18, 18}, {frame(impl.HFrame{Kind: 0}), 18, 18}, {frame(impl.HFrame{Kind: 1, Data: []byte{0}}), 18, 18}, {frame(impl.HFrame{Kind: 1}), 18, 18},
		{frame(impl.HFrame{Kind: 7, A: 0}), 0, 18}, {frame(impl.HFrame{Kind: 7, A: maxVar}), 0, 18},
		{frame(impl.HFrame{Kind: 15, A: 0, Data: []byte("u=1")}), 18, 0}, {frame(impl.HFrame{Kind: 15, A: maxVar}), 18, 0}, {frame(impl.HFrame{Kind: 15, A: 3, Data: zeroes(1024)}), 18, 0},
		// Kinds without a name are passed over, whatever they hold.
		{frame(impl.HFrame{Kind: 2}), 0, 0}, {frame(impl.HFrame{Kind: 33, Data: []byte("any")}), 0, 0}, {frame(impl.HFrame{Kind: maxVar, Data: zeroes(8000)}), 0, 0}, {[]byte{3, 0, 5, 1, 9, 6, 0}, 0, 0},
		// In longer forms.
		{[]byte{64, 33, 64, 1, 7}, 0, 0}, {[]byte{64, 7, 64, 1, 8}, 0, 18}, {[]byte{64, 4, 64, 0}, 18, 18},
		// What is no frame.
		{[]byte{0, 128, 0, 64, 1}, 3, 3}, {[]byte{33, 128, 0, 64, 1}, 3, 3}, {[]byte{33, 255, 255, 255, 255, 255, 255, 255, 255}, 3, 3},
		{[]byte{4, 1, 1}, 3, 3}, {[]byte{4, 4, 1, 1, 1, 1}, 3, 3}, {[]byte{7, 0}, 3, 3}, {[]byte{7, 2, 1, 1}, 3, 3}, {[]byte{15, 0}, 3, 3}, {append([]byte{15, 68, 2, 1}, zeroes(1025)...), 3, 3},
		// What is not whole is not looked at, though it can be no frame of those that may stand there.
		{[]byte{4}, 0, 0}, {[]byte{0}, 0, 0}, {[]byte{1, 5, 0, 0, 0, 0}, 0, 0}, {[]byte{64}, 0, 0}, {[]byte{4, 4, 1, 1, 1}, 0, 0}, {[]byte{33, 128, 0, 64}, 0, 0}, {[]byte{33, 128, 0, 64, 0}, 0, 0},
		// A good one ahead, a wrong one behind, and the other way round.
		{[]byte{33, 0, 4, 0}, 18, 18}, {[]byte{33, 0, 7, 0, 4, 0}, 3, 3}, {[]byte{4, 0, 7, 0}, 18, 18}, {[]byte{7, 1, 0, 15, 1, 0}, 18, 18},
	} {
		for _, ahead := range [][]impl.TalkOp{nil, {talkAll()}, {talkRoot("x"), talkAll()}, {talkMove(0, 2, 3), talkMove(1, 3, 3)}} {
			for _, behind := range [][]impl.TalkOp{{talkAll()}, {talkMove(0, 2, 4), talkMove(1, 3, 4), talkAll()}, {talkMove(0, 2, 9999), talkMove(1, 3, 9999)}} {
				for _, raw := range []func(side, id int, b ...byte) impl.TalkOp{talkRaw, talkRawEnd} {
					checkEnds(t, plainTalk(), slices.Concat(ahead, []impl.TalkOp{raw(1, 3, c.b...)}, behind), c.client, 0)
					checkEnds(t, plainTalk(), slices.Concat(ahead, []impl.TalkOp{raw(0, 2, c.b...)}, behind), 0, c.server)
				}
			}
		}
	}
}

// The encoder streams and the decoder streams.
func TestTalkRawInstructions(t *testing.T) {
	s := talkWith(200, 2, 10)
	for _, c := range []struct {
		b    []byte
		code int
	}{
		{nil, 0}, {[]byte{64 + 1, 'a', 1, 'b'}, 0}, {[]byte{64 + 1, 'a', 1, 'b', 0, 128, 1, 'c', 192 + 5, 0, 32 + 20, 32}, 0},
		{[]byte{0}, 16}, {[]byte{128, 0}, 16}, {[]byte{192 + 24, 0}, 16}, {[]byte{64 + 1, 'a', 0, 1}, 16}, {[]byte{63, 169, 1}, 0}, {[]byte{63, 170, 1}, 16},
		{[]byte{64, 0}, 3}, {[]byte{64 + 1, 'A', 0}, 3}, {[]byte{64 + 31, 34}, 3}, {[]byte{64 + 31, 33}, 0}, {[]byte{192, 127, 130, 7}, 3}, {[]byte{192 + 19, 1, 0}, 3},
		{[]byte{32 + 0, 64 + 1, 'a', 0}, 16}, {append([]byte{192 + 19, 127, 41}, zeroes(168)...), 3}, {append([]byte{192 + 19, 127, 41}, rowOf(168, 0, 9)...), 3}, {append([]byte{192 + 19, 127, 41}, []byte(strings.Repeat("c", 168))...), 16},
		{[]byte{255, 255, 255, 255, 255, 255, 255, 255, 255, 255, 255}, 3}, {[]byte{255, 255, 255, 255, 255, 255, 255, 255, 255}, 0},
		// Not whole.
		{[]byte{64 + 1}, 0}, {[]byte{64 + 1, 'A'}, 0}, {[]byte{64 + 1, 'A', 5, 'b'}, 0}, {[]byte{192 + 24}, 0}, {[]byte{128, 1}, 0}, {[]byte{63}, 0}, {[]byte{63, 200}, 0},
		// A good one ahead of a wrong one.
		{[]byte{64 + 1, 'a', 1, 'b', 128 + 1, 0}, 16}, {[]byte{64 + 1, 'a', 1, 'b', 64, 0}, 3},
	} {
		for _, ahead := range [][]impl.TalkOp{nil, {talkAll()}} {
			checkTalkAsked(t, s, slices.Concat(ahead, []impl.TalkOp{talkRaw(0, 6, c.b...), talkAll(), talkRoot("a"), talkAll()}))
			out := impl.TalkRun(s, slices.Concat(ahead, []impl.TalkOp{talkRaw(0, 6, c.b...), talkMove(0, 6, 9999)}))
			if out.Server != c.code || out.Client != 0 {
				t.Errorf("%v: %s", c.b, toldTalkOut(out))
			}
			out = impl.TalkRun(s, slices.Concat(ahead, []impl.TalkOp{talkRawEnd(1, 7, c.b...), talkMove(1, 7, 1), talkMove(1, 7, 2), talkMove(1, 7, 9999)}))
			if out.Client != c.code || out.Server != 0 {
				t.Errorf("%v: %s", c.b, toldTalkOut(out))
			}
		}
	}
	for _, c := range []struct {
		b    []byte
		code int
	}{
		{nil, 0}, {[]byte{64}, 0}, {[]byte{64 + 4, 64 + 63, 1}, 0}, {[]byte{0}, 16}, {[]byte{1}, 16}, {[]byte{63}, 0}, {[]byte{63, 0}, 16}, {[]byte{128}, 16}, {[]byte{128 + 4}, 16}, {[]byte{255}, 0}, {[]byte{255, 0}, 16}, {[]byte{64, 64, 128}, 16},
		{[]byte{255, 255, 255, 255, 255, 255, 255, 255, 255, 255, 255}, 3}, {[]byte{63, 255, 255, 255, 255, 255, 255, 255, 255, 255}, 3},
	} {
		for _, ahead := range [][]impl.TalkOp{nil, {talkAll()}} {
			checkEnds(t, s, slices.Concat(ahead, []impl.TalkOp{talkRaw(0, 10, c.b...), talkAll()}), 0, c.code)
			checkEnds(t, s, slices.Concat(ahead, []impl.TalkOp{talkRawEnd(1, 11, c.b...), talkAll()}), c.code, 0)
			checkEnds(t, s, slices.Concat(ahead, []impl.TalkOp{talkRaw(1, 11, c.b...), talkMove(1, 11, 1), talkMove(1, 11, 1), talkMove(1, 11, 20)}), c.code, 0)
		}
	}
	// What an entry that was never added is worth: the server tells of it, and the client knows of none.
	checkEnds(t, s, []impl.TalkOp{talkAll(), talkRaw(0, 6, 64+1, 'a', 1, 'b'), talkAll()}, impl.ErrTable, 0)
	checkEnds(t, s, []impl.TalkOp{talkAll(), talkRoot("", "a", "b"), talkRaw(0, 6, 64+1, 'a', 1, 'b'), talkAll()}, impl.ErrTable, 0)
	// An entry by hand that the section counts on: what the table has is another one than the client thinks.
	checkEnds(t, s, []impl.TalkOp{talkAll(), talkRaw(0, 6, 64+1, 'q', 1, 'r'), talkMove(0, 6, 9), talkRoot("", "a", "b"), talkMove(0, 0, 99), talkMove(1, 0, 99)}, 0, 0)
}

// A response's stream, on which content waits: frames of all kinds, and sections.
func TestTalkRawOnResponses(t *testing.T) {
	s := talkWith(200, 1, 10)
	ask := talkRoot("content")
	begin := append([]impl.TalkOp{talkAll()}, arrived(ask)...)
	data := func(text string) []byte { return hyperBytesAsked(impl.HFrame{Kind: 0, Data: []byte(text)}) }
	section := func(b ...byte) []byte { return hyperBytesAsked(impl.HFrame{Kind: 1, Data: b}) }
	for _, c := range []struct {
		b           []byte
		client      int
		reply, last impl.Reply // when the content follows, and when the end does
	}{
		{nil, 0, done(0, 200, "content"), failed(0, 17)},
		{data("content"), 0, failed(0, 17), done(0, 200, "content")},
		{data("CONTENT"), 0, failed(0, 17), done(0, 200, "CONTENT")},
		{join(data("con"), data("tent")), 0, failed(0, 17), done(0, 200, "content")},
		{join(data(""), data("content"), data("")), 0, failed(0, 17), done(0, 200, "content")},
		{join(data("content"), section(0)), 18, open(0), done(0, 200, "content")},
		{join(data("content"), section(0, 192+23)), 18, open(0), done(0, 200, "content")},
		{data(""), 0, done(0, 200, "content"), failed(0, 17)},
		{data("conten"), 0, failed(0, 17), failed(0, 17)},
		{data("content!"), 0, failed(0, 17), failed(0, 17)},
		// Kinds without a name, anywhere.
		{[]byte{2, 0}, 0, done(0, 200, "content"), failed(0, 17)}, {[]byte{33, 2, 1, 1, 64, 99, 0}, 0, done(0, 200, "content"), failed(0, 17)},
		{join([]byte{33, 0}, data("content"), []byte{33, 0}), 0, failed(0, 17), done(0, 200, "content")},
		// Fields behind the content, which is none yet.
		{section(0), 18, open(0), failed(0, 17)},
		{section(0, 192+0, 192+1), 18, open(0), failed(0, 17)},
		{join(section(0), section(0)), 18, open(0), open(0)},
		{join(section(0), data("")), 18, open(0), open(0)},
		// Frames that may not stand there.
		{[]byte{4, 0}, 18, open(0), open(0)}, {[]byte{7, 1, 0}, 18, open(0), open(0)}, {[]byte{15, 1, 0}, 18, open(0), open(0)},
		{join(data("content"), []byte{4, 0}), 18, open(0), open(0)},
		// What is no frame.
		{[]byte{0, 128, 0, 64, 1}, 3, open(0), open(0)}, {[]byte{4, 1, 0}, 3, open(0), open(0)}, {join(data("content"), []byte{7, 0}), 3, open(0), open(0)},
		// Sections that are none.
		{section(), 2, open(0), open(0)}, {section(255), 2, open(0), open(0)}, {section(0, 31), 3, open(0), open(0)}, {section(0, 192+24), 16, open(0), open(0)}, {section(0, 128), 16, open(0), open(0)}, {section(0, 32), 2, open(0), open(0)}, {section(0, 32, 0), 3, open(0), open(0)}, {section(0, 96, 9, 'x'), 2, open(0), open(0)},
	} {
		raw := append(slices.Clone(begin), talkRaw(1, 0, c.b...))
		end := append(slices.Clone(begin), talkRawEnd(1, 0, c.b...))
		for _, behind := range [][]impl.TalkOp{{talkAll()}, {talkMove(1, 0, 7), talkMove(1, 0, 1), talkMove(1, 7, 99), talkMove(1, 0, 1), talkAll()}} {
			out := checkEnds(t, s, append(slices.Clone(raw), behind...), c.client, 0)
			if !sameReply(out.Replies[0], c.reply) {
				t.Errorf("%v: %s, want %s", c.b, toldReply(out.Replies[0]), toldReply(c.reply))
			}
			want := c.client
			if c.last.Done || c.last.Code != 0 {
				want = 0
			}
			out = checkEnds(t, s, append(slices.Clone(end), behind...), want, 0)
			if !sameReply(out.Replies[0], c.last) {
				t.Errorf("%v and the end: %s, want %s", c.b, toldReply(out.Replies[0]), toldReply(c.last))
			}
		}
	}
	// An end amid a frame, at each place of it.
	whole := data("content")
	for n := range len(whole) {
		out := checkEnds(t, s, append(slices.Clone(begin), talkRawEnd(1, 0, whole[:n]...), talkAll()), 0, 0)
		if !sameReply(out.Replies[0], failed(0, impl.ErrMessage)) {
			t.Errorf("%d bytes of a frame: %s", n, toldReply(out.Replies[0]))
		}
	}
}

// What waits for entries by hand: one that waits, and more than may.
func TestTalkRawSectionsThatWait(t *testing.T) {
	for _, blocked := range []int{0, 1, 2} {
		s := talkWith(4096, blocked, 100)
		ops := append([]impl.TalkOp{talkAll()}, arrived(talkRoot("a"), talkRoot("bb"), talkRoot("ccc"))...)
		ops = append(ops, talkMoves(1, 0, 4, 8, 7)...)
		trailers := hyperBytesAsked(impl.HFrame{Kind: 1, Data: []byte{9, 128}})
		for i := range 3 {
			code := impl.OK
			if i >= blocked {
				code = impl.ErrTable
			}
			ops = append(ops, talkRaw(1, 4*i, trailers...), talkMove(1, 4*i, 99))
			out := checkEnds(t, s, ops, code, 0)
			if code != impl.OK && len(ops) > 0 && out.Replies[0].Done {
				t.Errorf("%s", toldTalkOut(out))
			}
		}
	}
	// It goes on when the entries come, and is then behind all content that the server has yet to write.
	s := talkWith(4096, 1, 100)
	begin := append([]impl.TalkOp{talkAll()}, arrived(talkRoot("a"))...)
	begin = append(begin, talkMoves(1, 0, 7)...)
	trailers := hyperBytesAsked(impl.HFrame{Kind: 1, Data: []byte{3, 128}})
	data := []byte{0, 1, 'z'}
	begin = append(begin, talkRawEnd(1, 0, join(data, trailers)...), talkMove(1, 0, 99))
	checkReplies(t, s, begin, open(0))
	checkReplies(t, s, append(slices.Clone(begin), talkRaw(1, 7, 64+1, 'a', 1, 'b'), talkMove(1, 7, 99)), open(0))
	checkReplies(t, s, append(slices.Clone(begin), talkRaw(1, 7, 64+1, 'a', 1, 'b', 0), talkMove(1, 7, 99)), done(0, 200, "z"))
	checkReplies(t, s, append(slices.Clone(begin), talkRaw(1, 7, 64+1, 'a', 1, 'b', 0), talkMove(1, 7, 4), talkTurn(), talkMove(1, 0, 99), talkMove(1, 7, 1)), done(0, 200, "z"))
	checkReplies(t, s, append(slices.Clone(begin), talkDrop(0), talkRaw(1, 7, 64+1, 'a', 1, 'b', 0), talkMove(1, 7, 99)), failed(0, impl.ErrCancel))
}

// entryByHand is an instruction that adds a field with its name.
func entryByHand(name, value string) []byte {
	return join(prefixAsked(len(name), 5, 64), []byte(name), textAsked(value))
}

// Entries that were written by hand are what the other end reads where the encoder refers to its own: so a request that is none
// comes to the server, and it answers 400.
func TestTalkRawEntriesOfRequests(t *testing.T) {
	s := talkWith(400, 1, 100)
	for _, c := range []struct {
		name, value string
		want        impl.Reply
	}{
		{"x-q", "any", done(0, 200, "body")}, {"content-length", "4", done(0, 200, "body")}, {"content-length", "5", done(0, 400, "")}, {"content-length", "3", done(0, 400, "")}, {"content-length", "0", done(0, 400, "")}, {"content-length", "x", done(0, 400, "")},
		{"upgrade", "x", done(0, 400, "")}, {":path", "/", done(0, 400, "")}, {":authority", "x", done(0, 200, "body")}, {":authority", "", done(0, 400, "")}, {":status", "200", done(0, 400, "")}, {"x-q", " x", done(0, 400, "")},
	} {
		begin := []impl.TalkOp{talkAll(), talkRaw(0, 6, entryByHand(c.name, c.value)...), talkMove(0, 6, 999), talkRoot("body", "x-a", "1")}
		ops := append(slices.Concat(begin, talkMoves(0, 0)), talkTurn())
		checkReplies(t, s, append(ops, talkMoves(1, 7, 0)...), c.want)
		// The instructions of the client itself behind that.
		checkReplies(t, s, append(slices.Clone(ops), slices.Concat(talkMoves(0, 6), talkMoves(1, 0, 7))...), c.want)
	}
	// The first fields of a request alone: a path of which the table has another one.
	ops := []impl.TalkOp{talkAll(), talkRaw(0, 6, entryByHand(":path", "/part/by-hand")...), talkMove(0, 6, 999), talkAsk("GET", "/part/asked", "")}
	checkReplies(t, s, slices.Concat(ops, talkMoves(0, 0), []impl.TalkOp{talkTurn()}, talkMoves(1, 7, 0)), done(0, 200, "by-hand"))
}

// Likewise of responses, at the client.
func TestTalkRawEntriesOfResponses(t *testing.T) {
	s := talkWith(400, 1, 100)
	reply := func(body string, fields ...string) impl.Reply {
		return impl.Reply{Status: 200, Fields: pairsOf(fields...), Body: []byte(body), Done: true}
	}
	data := func(n int) []byte { return hyperBytesAsked(impl.HFrame{Kind: 0, Data: zeroes(n)}) }
	for _, c := range []struct {
		name, value string
		more        int // bytes of content by hand
		want        impl.Reply
	}{
		{"x-q", "any", 0, reply("body", "x-q", "any")}, {"content-length", "004", 0, reply("body", "content-length", "004")}, {"content-length", "5", 0, failed(0, 17)}, {"content-length", "3", 0, failed(0, 17)}, {"content-length", "no", 0, failed(0, 17)}, {"content-length", "5", 1, reply("\x00body", "content-length", "5")},
		{"upgrade", "x", 0, failed(0, 17)}, {":status", "200", 0, failed(0, 17)}, {":path", "/", 0, failed(0, 17)}, {"x-q", "x ", 0, failed(0, 17)},
		// As many bytes as a content may have, and one more, where no length is told.
		{"x-q", "any", 8188, reply(string(zeroes(8188))+"body", "x-q", "any")}, {"x-q", "any", 8189, failed(0, 17)}, {"content-length", "8193", 8189, failed(0, 17)}, {"content-length", "8192", 8188, reply(string(zeroes(8188))+"body", "content-length", "8192")},
	} {
		begin := append([]impl.TalkOp{talkAll(), talkRaw(1, 7, entryByHand(c.name, c.value)...), talkMove(1, 7, 999)}, arrived(talkRoot("body"))...)
		if c.more > 0 {
			for part := range slices.Chunk(data(c.more), 8192) {
				begin = append(begin, talkRaw(1, 0, part...))
			}
		}
		checkReplies(t, s, slices.Concat(begin, []impl.TalkOp{talkTurn()}, talkMoves(1, 0)), c.want)
	}
}

// The end of a one-way stream is nothing that anybody asks for, and what is written behind it comes too.
func TestTalkRawEndsOfOneWayStreams(t *testing.T) {
	for _, s := range []impl.TalkSetup{talkWith(400, 2, 3), talkWith(0, 0, 3)} {
		for id, side := range map[int]int{2: 0, 6: 0, 10: 0, 3: 1, 7: 1, 11: 1} {
			for _, begin := range [][]impl.TalkOp{nil, {talkAll()}, {talkRoot("first", "x-a", "1"), talkAll()}} {
				ops := append(slices.Clone(begin), talkRawEnd(side, id), talkAll(), talkRoot("a body", "x-a", "1"), talkAll(), talkRoot("more", "x-a", "1", "x-b", "2"), talkAll())
				out := checkEnds(t, s, ops, 0, 0)
				for _, r := range out.Replies {
					if !r.Done {
						t.Errorf("%d ended: %s", id, toldReply(r))
					}
				}
			}
		}
	}
}

// A content goes on to be written though the end was written by hand; behind an end that has come nothing is looked at.
func TestTalkRawEndAheadOfContent(t *testing.T) {
	s := talkWith(0, 0, 4)
	begin := arrived(talkRoot("content"))
	checkReplies(t, s, append(slices.Clone(begin), talkRawEnd(1, 0), talkTurn(), talkTurn(), talkMove(1, 0, 99)), done(0, 200, "content"))
	checkReplies(t, s, append(slices.Clone(begin), talkRawEnd(1, 0), talkTurn(), talkMove(1, 0, 99)), failed(0, impl.ErrMessage))
	checkReplies(t, s, append(slices.Clone(begin), talkRawEnd(1, 0), talkMove(1, 0, 99), talkTurn(), talkTurn(), talkMove(1, 0, 99)), failed(0, impl.ErrMessage))
	checkReplies(t, s, append(slices.Clone(begin), talkTurn(), talkRawEnd(1, 0, 0, 3, 'e', 'n', 'd'), talkMove(1, 0, 99), talkTurn(), talkMove(1, 0, 99), talkAll()), done(0, 200, "contend"))
	checkLast(t, s, impl.OK, append(slices.Clone(begin), talkRawEnd(1, 0), talkTurn(), talkTurn())...)
	checkLast(t, s, impl.ErrState, append(slices.Clone(begin), talkRawEnd(1, 0), talkTurn(), talkTurn(), talkTurn())...)
	// The end alone comes with a move of any number.
	for _, n := range []int{1, 2, 99, math.MaxInt} {
		checkReplies(t, s, append(slices.Clone(begin), talkTurn(), talkRaw(1, 0, 0, 3, 'e', 'n', 'd'), talkMove(1, 0, 99), talkRawEnd(1, 0), talkMove(1, 0, n)), done(0, 200, "contend"))
	}
	checkReplies(t, s, append(slices.Clone(begin), talkTurn(), talkRaw(1, 0, 0, 3, 'e', 'n', 'd'), talkMove(1, 0, 99), talkRawEnd(1, 0)), open(0))
	checkReplies(t, s, append(slices.Clone(begin), talkTurn(), talkRaw(1, 0, 0, 3, 'e', 'n', 'd'), talkMove(1, 0, 99), talkRawEnd(1, 0), talkAll()), done(0, 200, "contend"))
}

// A goaway by hand: of those from its number on the Reply is refused, of any number, as often as it comes.
func TestTalkRawGoaways(t *testing.T) {
	s := talkWith(0, 0, 10)
	away := func(a int) impl.TalkOp { return talkRaw(1, 3, hyperBytesAsked(impl.HFrame{Kind: 7, A: a})...) }
	begin := append([]impl.TalkOp{talkRoot("a"), talkAll()}, talkRoot("b"), talkRoot("c"), talkRoot("d"))
	no := func(id int) impl.Reply { return failed(id, impl.ErrCancel) }
	checkReplies(t, s, append(slices.Clone(begin), away(0), talkMove(1, 3, 99)), done(0, 200, "a"), no(4), no(8), no(12))
	checkReplies(t, s, append(slices.Clone(begin), away(4), talkMove(1, 3, 99)), done(0, 200, "a"), no(4), no(8), no(12))
	checkReplies(t, s, append(slices.Clone(begin), away(5), talkMove(1, 3, 99)), done(0, 200, "a"), open(4), no(8), no(12))
	checkReplies(t, s, append(slices.Clone(begin), away(13), talkMove(1, 3, 99)), done(0, 200, "a"), open(4), open(8), open(12))
	checkReplies(t, s, append(slices.Clone(begin), away(maxVar), talkMove(1, 3, 99), talkAll()), done(0, 200, "a"), done(4, 200, "b"), done(8, 200, "c"), done(12, 200, "d"))
	checkLast(t, s, impl.ErrCancel, append(slices.Clone(begin), away(maxVar), talkAll(), talkRoot(""))...)
	checkReplies(t, s, append(slices.Clone(begin), away(12), away(8), talkAway(), talkAll()), done(0, 200, "a"), no(4), no(8), no(12))
	// The server has answered nevertheless: that counts, and the code stays.
	checkReplies(t, s, append(slices.Clone(begin), away(8), talkMove(1, 3, 99), talkAll()), done(0, 200, "a"), done(4, 200, "b"), refusedDone(8, 200, "c"), refusedDone(12, 200, "d"))
	checkReplies(t, s, append(slices.Clone(begin), away(8), talkMove(1, 3, 99), talkDrop(4), talkAll()), done(0, 200, "a"), no(4), refusedDone(8, 200, "c"), refusedDone(12, 200, "d"))
	// One that is no response is refused then.
	checkReplies(t, s, append(slices.Clone(begin), talkMove(0, 4, 99), talkRawEnd(1, 4), talkMove(1, 4, 99), away(0), talkMove(1, 3, 99)), done(0, 200, "a"), no(4), no(8), no(12))
}

// refusedDone is the Reply to a request that a goaway refused, and that was answered nevertheless.
func refusedDone(id, status int, content string) impl.Reply {
	r := done(id, status, content)
	r.Code = impl.ErrCancel
	return r
}

// What comes on the stream of a refused request counts behind its end as on any other.
func TestP23ResponsesToRefusedRequests(t *testing.T) {
	s := talkWith(0, 0, 10)
	away := func(a int) []impl.TalkOp {
		return []impl.TalkOp{talkRaw(1, 3, hyperBytesAsked(impl.HFrame{Kind: 7, A: a})...), talkMove(1, 3, 99)}
	}
	no, none, yes := failed(0, impl.ErrCancel), failed(0, impl.ErrMessage), refusedDone(0, 200, "content")
	begin := append(arrived(talkRoot("content")), away(0)...)
	for i, c := range []struct {
		behind []impl.TalkOp
		want   impl.Reply
	}{
		{nil, no},
		{[]impl.TalkOp{talkAll()}, yes},
		{[]impl.TalkOp{talkTurn(), talkMove(1, 0, 99)}, yes},
		{[]impl.TalkOp{talkMove(1, 0, 99), talkTurn(), talkMove(1, 0, 1), talkMove(1, 0, 99)}, yes},
		// Not ahead of its end.
		{[]impl.TalkOp{talkMove(1, 0, 99)}, no},
		{[]impl.TalkOp{talkMove(1, 0, 99), talkRaw(1, 0, 0, 7, 'c', 'o', 'n', 't', 'e', 'n', 't'), talkMove(1, 0, 99)}, no},
		{[]impl.TalkOp{talkMove(1, 0, 99), talkRaw(1, 0, 0, 7, 'c', 'o', 'n', 't', 'e', 'n', 't'), talkRawEnd(1, 0), talkMove(1, 0, 99)}, yes},
		// What is no response.
		{[]impl.TalkOp{talkRawEnd(1, 0, 0), talkMove(1, 0, 99)}, none},
		{[]impl.TalkOp{talkRawEnd(1, 0), talkMove(1, 0, 99)}, none},
		{[]impl.TalkOp{talkRawEnd(1, 0, 0, 1, 'x'), talkMove(1, 0, 99)}, none},
		{[]impl.TalkOp{talkRaw(1, 0, 0, 1, 'x'), talkAll()}, none},
		// Another goaway: it refuses again what was no response, and not what is Done.
		{slices.Concat([]impl.TalkOp{talkRawEnd(1, 0, 0), talkMove(1, 0, 99)}, away(0)), no},
		{slices.Concat([]impl.TalkOp{talkRawEnd(1, 0, 0), talkMove(1, 0, 99)}, away(1)), none},
		{slices.Concat([]impl.TalkOp{talkAll()}, away(0)), yes},
		{append(away(0), talkAll()), yes},
		// It can't be given up any more.
		{[]impl.TalkOp{talkDrop(0), talkAll(), talkDrop(0)}, yes},
		{[]impl.TalkOp{talkRawEnd(1, 0, 0), talkMove(1, 0, 99), talkDrop(0)}, none},
	} {
		out := checkReplies(t, s, append(slices.Clone(begin), c.behind...), c.want)
		for at, op := range c.behind {
			if obs := out.Obs[len(begin)+at]; op.Kind == impl.TDrop && obs.Code != impl.ErrState {
				t.Errorf("case %d: %+v", i, obs)
			}
		}
	}
	// One that was given up first, and one that is Done ahead of the goaway.
	checkReplies(t, s, slices.Concat(arrived(talkRoot("content")), []impl.TalkOp{talkDrop(0)}, away(0), []impl.TalkOp{talkAll()}), no)
	checkReplies(t, s, slices.Concat(arrived(talkRoot("content")), []impl.TalkOp{talkDrop(0)}, away(0), []impl.TalkOp{talkRawEnd(1, 0, 0), talkAll()}), no)
	checkReplies(t, s, slices.Concat([]impl.TalkOp{talkRoot("content"), talkAll()}, away(0), []impl.TalkOp{talkAll()}), done(0, 200, "content"))
	// The goaway comes between the parts of a response.
	checkReplies(t, s, slices.Concat(arrived(talkRoot("content")), talkMoves(1, 0), away(0), []impl.TalkOp{talkTurn()}, talkMoves(1, 0)), yes)
	// A response that waits for entries goes on.
	wide := talkWith(400, 2, 10)
	waits := slices.Concat([]impl.TalkOp{talkAll(), talkRoot("content")}, talkMoves(0, 6, 0), []impl.TalkOp{talkTurn()}, talkMoves(1, 0), away(0))
	checkReplies(t, wide, waits, no)
	checkReplies(t, wide, append(slices.Clone(waits), talkMoves(1, 7)...), yes)
	checkReplies(t, wide, append(slices.Clone(waits), talkDrop(0), talkAll()), yes)
}

// More comes at once than a reader may be handed.
func TestTalkRawVeryMuchAtOnce(t *testing.T) {
	s := talkWith(4096, 4, 4096)
	raws := func(side, id int, row []byte, count int) []impl.TalkOp {
		var ops []impl.TalkOp
		whole := slices.Repeat(row, (8192*count)/len(row))
		for part := range slices.Chunk(whole, 8192) {
			ops = append(ops, talkRaw(side, id, part...))
		}
		return ops
	}
	ask := talkRoot("content", "x-a", "1")
	for _, c := range []struct {
		side, id int
		row      []byte
	}{
		{0, 2, []byte{33, 0}}, {0, 2, []byte{33, 3, 1, 2, 3}}, {1, 3, []byte{33, 0}}, {1, 3, append([]byte{33, 64 + 63, 255}, zeroes(16383)...)}, {0, 2, append([]byte{33, 128, 0, 64, 0}, zeroes(16384)...)},
		{0, 2, append([]byte{15, 68, 1, 0}, zeroes(1024)...)},
		{0, 10, []byte{64 + 40}}, {1, 11, []byte{64 + 63, 7}}, {1, 11, []byte{64 + 63, 200, 7}},
		{0, 6, []byte{63, 225, 31}}, {1, 7, []byte{63, 225, 31}},
	} {
		for _, ahead := range [][]impl.TalkOp{nil, {talkAll()}} {
			ops := slices.Concat(ahead, raws(c.side, c.id, c.row, 9), []impl.TalkOp{talkMove(c.side, c.id, math.MaxInt), ask, talkAll(), ask, talkAll()})
			out, _ := checkTalkAsked(t, s, ops)
			for _, r := range out.Replies {
				if !r.Done || out.Client != 0 || out.Server != 0 {
					t.Errorf("%v: %s", c.row[:min(len(c.row), 9)], toldTalkOut(out))
				}
			}
			// What is wrong behind all that is found.
			wrong := slices.Concat(ahead, raws(c.side, c.id, c.row, 9), []impl.TalkOp{talkRaw(c.side, c.id, 255, 255, 255, 255, 255, 255, 255, 255, 255, 255, 255, 255, 255, 255, 255, 255, 255, 255), talkMove(c.side, c.id, math.MaxInt)})
			out, _ = checkTalkAsked(t, s, wrong)
			if out.Client+out.Server != impl.ErrForm {
				t.Errorf("%v: %s", c.row[:min(len(c.row), 9)], toldTalkOut(out))
			}
		}
	}
	// Entries: very many come at once, and are told in one number.
	entries := slices.Concat([]impl.TalkOp{talkAll(), talkRaw(0, 6, 64+1, 'a', 1, 'b')}, raws(0, 6, []byte{0}, 9), []impl.TalkOp{talkMove(0, 6, math.MaxInt), talkMove(1, 11, 1), talkMove(1, 11, 1), talkMove(1, 11, 1)})
	out, _ := checkTalkAsked(t, s, entries)
	if out.Client != impl.OK || out.Server != impl.OK {
		t.Errorf("%s", toldTalkOut(out))
	}
	if out, _ := checkTalkAsked(t, s, append(entries, talkMove(1, 11, 1))); out.Client != impl.ErrTable || out.Server != impl.OK {
		t.Errorf("%s", toldTalkOut(out))
	}
	// A response of very many bytes.
	response := slices.Concat(arrived(talkRoot("content")), raws(1, 0, []byte{0, 3, 'x', 'y', 'z'}, 12), []impl.TalkOp{talkMove(1, 0, math.MaxInt), talkAll()})
	out, _ = checkTalkAsked(t, s, response)
	if !sameReply(out.Replies[0], failed(0, impl.ErrMessage)) {
		t.Errorf("%s", toldTalkOut(out))
	}
	passed := slices.Concat(arrived(talkRoot("content")), raws(1, 0, []byte{33, 3, 'x', 'y', 'z'}, 12), []impl.TalkOp{talkMove(1, 0, math.MaxInt), talkAll()})
	out, _ = checkTalkAsked(t, s, passed)
	if !sameReply(out.Replies[0], done(0, 200, "content")) {
		t.Errorf("%s", toldTalkOut(out))
	}
}

// What an end that has met an error does still, and what the other one does.
func TestTalkBehindAnError(t *testing.T) {
	s := talkWith(400, 2, 3)
	ask := talkRoot("content", "x-a", "1")
	// The server: it has answered one request, and has content to write.
	begin := append([]impl.TalkOp{talkAll(), ask, ask}, talkMoves(0, 0, 6)...)
	server := append(slices.Clone(begin), talkRaw(0, 2, 4, 0), talkMove(0, 2, 99))
	checkEnds(t, s, server, 0, impl.ErrPlace)
	for _, op := range []impl.TalkOp{talkTurn(), talkAway(), talkRaw(1, 3), talkRaw(1, 99), talkRawEnd(1, 0, zeroes(8193)...)} {
		checkLast(t, s, impl.ErrState, append(slices.Clone(server), op)...)
	}
	for _, op := range []impl.TalkOp{ask, talkDrop(0), talkPrior(4, "u=1"), talkRaw(0, 2, 33, 0), talkMove(0, 4, 1), talkMove(1, 0, 1), talkMove(1, 7, 99), talkAll()} {
		checkLast(t, s, impl.OK, append(slices.Clone(server), op)...)
	}
	for _, op := range []impl.TalkOp{talkMove(1, 4, 1), talkDrop(99), {Kind: 9}, {Kind: impl.TTurn, Side: 2}, {Kind: impl.TGoaway, Side: -1}, {Kind: impl.TRaw, Side: 3}} {
		checkLast(t, s, impl.ErrBad, append(slices.Clone(server), op)...)
	}
	// What it has written comes, and no more.
	checkTalkEach(t, s, append(slices.Clone(server), talkAll(), ask, talkAll(), talkDrop(4), talkMove(0, 4, 1), talkTurn()))
	out := impl.TalkRun(s, append(slices.Clone(server), talkAll()))
	if out.Client != 0 || out.Server != impl.ErrPlace || !slices.EqualFunc(out.Replies, []impl.Reply{open(0), open(4)}, sameReply) {
		t.Errorf("%s", toldTalkOut(out))
	}
	// A response that was written whole comes whole.
	whole := append(slices.Clone(begin), talkTurn(), talkTurn(), talkTurn(), talkRaw(0, 2, 4, 0), talkAll())
	out = checkEnds(t, s, whole, 0, impl.ErrPlace)
	if !slices.EqualFunc(out.Replies, []impl.Reply{done(0, 200, "content"), open(4)}, sameReply) {
		t.Errorf("%s", toldTalkOut(out))
	}
	// The first error stays.
	checkEnds(t, s, append(slices.Clone(server), talkRaw(0, 6, 64, 0), talkAll()), 0, impl.ErrPlace)
	// The client.
	client := append(slices.Clone(begin), talkTurn(), talkRaw(1, 3, 4, 0), talkMove(1, 3, 99))
	checkEnds(t, s, client, impl.ErrPlace, 0)
	for _, op := range []impl.TalkOp{ask, talkAsk("get", "", ""), talkDrop(0), talkDrop(99), talkPrior(4, "u=1"), talkPrior(99, ""), talkRaw(0, 2), talkRaw(0, 99), tooLong()} {
		checkLast(t, s, impl.ErrState, append(slices.Clone(client), op)...)
	}
	for _, op := range []impl.TalkOp{talkTurn(), talkAway(), talkRaw(1, 3, 1), talkRawEnd(1, 0), talkMove(0, 4, 1), talkMove(1, 0, 1), talkAll()} {
		checkLast(t, s, impl.OK, append(slices.Clone(client), op)...)
	}
	for _, op := range []impl.TalkOp{{Kind: impl.TAsk, Side: 2}, {Kind: 0}, {Kind: impl.TDrop, Side: -1}, talkRaw(1, 99), talkMove(0, 99, 1)} {
		checkLast(t, s, impl.ErrBad, append(slices.Clone(client), op)...)
	}
	out = checkEnds(t, s, append(slices.Clone(client), talkAll(), talkTurn(), talkAll()), impl.ErrPlace, 0)
	if !slices.EqualFunc(out.Replies, []impl.Reply{open(0), open(4)}, sameReply) {
		t.Errorf("%s", toldTalkOut(out))
	}
	// Both.
	both := append(slices.Clone(client), talkRaw(1, 7), talkRaw(1, 11, 128), talkAll())
	checkEnds(t, s, both, impl.ErrPlace, 0)
	both = append(slices.Clone(begin), talkRaw(0, 6, 64, 0), talkRaw(1, 11, 128), talkAll())
	checkEnds(t, s, both, impl.ErrTable, impl.ErrForm)
	for i, op := range talkEachKind() {
		code := impl.ErrState
		if op.Kind == impl.TMove || op.Kind == impl.TAll {
			code = impl.OK
		}
		checkLast(t, s, code, append(slices.Clone(both), op)...)
		op.Kind += 8 * (i % 2)
		checkTalkAsked(t, s, append(slices.Clone(both), op))
	}
}
