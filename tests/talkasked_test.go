package tests

import (
	"bytes"
	"fmt"
	"maps"
	"slices"
	"strconv"
	"strings"
	"testing"

	"loop.example/g00012/impl"
)

// This file is a second program of talks, by the chapter's words, and what holds the runs against it.

// askedHalf is what one side has written on a stream, all of it, and how much has come.
type askedHalf struct {
	all          []byte
	came         int
	end, endCame bool
}

// askedMessage is what has come of a message; of all that came read bytes were looked at.
type askedMessage struct {
	all              []byte
	read             int
	state            int
	fields           []impl.Field
	body             []byte
	end, waits, dead bool
}

type askedPeer struct {
	table, code int
	halves      map[int]*askedHalf
	oneWay      [3][]byte // what came and was not looked at
	begun       [3]bool
	settled     bool
	encoder     impl.Encoder
	decoder     impl.Decoder
	messages    map[int]*askedMessage
}

type askedContent struct {
	id, sent int
	bytes    []byte
	field    string // of the request
}

type askedTalk struct {
	s        impl.TalkSetup
	peers    [2]*askedPeer
	replies  []impl.Reply
	refused  bool
	away     int // what the goaway tells, -1 without one
	priority map[int]string
	contents []askedContent
	met      map[string]int
}

// oneWayAsked are the numbers of a side's one-way streams.
func oneWayAsked(side, place int) int { return 4*place + 2 + side }

func newAskedTalk(s impl.TalkSetup) *askedTalk {
	k := &askedTalk{s: s, away: -1, priority: map[int]string{}, met: map[string]int{}}
	for side, table := range []int{s.ClientTable, s.ServerTable} {
		k.peers[side] = &askedPeer{
			table: table, halves: map[int]*askedHalf{}, messages: map[int]*askedMessage{},
			decoder: impl.Decoder{Table: impl.Table{Most: table, Cap: table}},
		}
		for place, first := range []byte{0, 2, 3} {
			k.write(side, oneWayAsked(side, place), []byte{first})
		}
		k.write(side, oneWayAsked(side, 0), hyperBytesAsked(impl.HFrame{Kind: 4, Set: settings(1, table, 7, s.Blocked)}))
	}
	return k
}

func (k *askedTalk) half(side, id int) *askedHalf {
	if k.peers[side].halves[id] == nil {
		k.peers[side].halves[id] = &askedHalf{}
	}
	return k.peers[side].halves[id]
}

func (k *askedTalk) write(side, id int, b []byte) {
	h := k.half(side, id)
	h.all = append(h.all, b...)
}

func (k *askedTalk) fail(side, code int) {
	k.peers[side].code = code
	k.met[fmt.Sprintf("side %d met %d", side, code)]++
}

// section writes fields; false if they are too many bytes.
func (k *askedTalk) section(side, id int, list []impl.Field) bool {
	p := k.peers[side]
	e, instr, section, code := encodeAsked(p.encoder, id, list)
	if code != impl.OK {
		return false
	}
	p.encoder = e
	k.write(side, oneWayAsked(side, 1), instr)
	k.write(side, id, hyperBytesAsked(impl.HFrame{Kind: 1, Data: section}))
	return true
}

func (k *askedTalk) come(from, id, n int) bool {
	h := k.half(from, id)
	b := h.all[h.came:]
	b = b[:min(len(b), n)]
	h.came += len(b)
	end := h.end && h.came == len(h.all)
	something := len(b) > 0 || end && !h.endCame
	h.endCame = h.endCame || end
	if something {
		k.looksAt(1-from, id, b, end)
	}
	return something
}

// looksAt is what an end does with what has come on a stream.
func (k *askedTalk) looksAt(side, id int, b []byte, end bool) {
	switch {
	case k.peers[side].code != impl.OK:
	case id%4 >= 2:
		k.oneWayCame(side, id/4, b)
	default:
		k.messageCame(side, id, b, end)
	}
}

func (k *askedTalk) oneWayCame(side, place int, b []byte) {
	p := k.peers[side]
	p.oneWay[place] = append(p.oneWay[place], b...)
	if !p.begun[place] && len(p.oneWay[place]) > 0 {
		if int(p.oneWay[place][0]) != []int{0, 2, 3}[place] {
			k.fail(side, impl.ErrForm)
			return
		}
		p.begun[place] = true
		p.oneWay[place] = p.oneWay[place][1:]
	}
	switch place {
	case 0:
		k.controlCame(side)
	case 1:
		k.instructionsCame(side)
	case 2:
		k.acksCame(side)
	}
}

func firstBytes(b []byte) []byte { return b[:min(len(b), 65536)] }

func (k *askedTalk) controlCame(side int) {
	p := k.peers[side]
	for {
		f, next, code := readHyperAsked(firstBytes(p.oneWay[0]), 0)
		if code == impl.ErrShort {
			return
		}
		if code != impl.OK {
			k.fail(side, code)
			return
		}
		p.oneWay[0] = p.oneWay[0][next:]
		if !k.control(side, f) {
			k.fail(side, impl.ErrPlace)
			return
		}
	}
}

// control tells whether the frame may stand there.
func (k *askedTalk) control(side int, f impl.HFrame) bool {
	p := k.peers[side]
	if !p.settled {
		if f.Kind != 4 {
			return false
		}
		p.settled = true
		k.settings(side, f.Set)
		return true
	}
	switch {
	case f.Kind == 0, f.Kind == 1, f.Kind == 4, f.Kind == 7 && side == 1, f.Kind == 15 && side == 0:
		return false
	case f.Kind == 7:
		k.refused = true
		for i := range k.replies {
			if r := &k.replies[i]; r.Id >= f.A && !r.Done {
				r.Code = impl.ErrCancel
				k.met["refused by a goaway"]++
			}
		}
	case f.Kind == 15:
		if slices.ContainsFunc(k.contents, func(c askedContent) bool { return c.id == f.A }) {
			k.met["priority of what waits"]++
		}
		k.priority[f.A] = string(f.Data)
	}
	return true
}

func (k *askedTalk) settings(side int, list []impl.Setting) {
	values := map[int]int{}
	for _, s := range list {
		values[s.Id] = s.Value
	}
	p := k.peers[side]
	p.encoder.Table.Most, p.encoder.Blocked = min(values[1], 4096), min(values[7], 64)
	if most := p.encoder.Table.Most; most != 0 {
		p.encoder.Table.Cap = most
		k.write(side, oneWayAsked(side, 1), prefixAsked(most, 5, 32))
	}
}

func (k *askedTalk) instructionsCame(side int) {
	p := k.peers[side]
	for {
		d, used, code := readInstrAsked(p.decoder, firstBytes(p.oneWay[1]))
		if code != impl.OK {
			k.fail(side, code)
			return
		}
		p.decoder, p.oneWay[1] = d, p.oneWay[1][used:]
		if used == 0 {
			break
		}
	}
	for _, id := range slices.Sorted(maps.Keys(p.messages)) {
		if p.messages[id].waits {
			p.messages[id].waits = false
			k.look(side, id)
			if !p.messages[id].waits {
				k.met["went on"]++
			}
		}
		if p.code != impl.OK {
			return
		}
	}
	if more := p.decoder.Table.Added - p.decoder.Told; more > 0 {
		k.write(side, oneWayAsked(side, 2), prefixAsked(more, 6, 0))
		p.decoder.Told = p.decoder.Table.Added
		k.met["told entries"]++
	}
}

func (k *askedTalk) acksCame(side int) {
	p := k.peers[side]
	for {
		e, used, code := readAcksAsked(p.encoder, firstBytes(p.oneWay[2]))
		if code != impl.OK {
			k.fail(side, code)
			return
		}
		p.encoder, p.oneWay[2] = e, p.oneWay[2][used:]
		if used == 0 {
			return
		}
	}
}

func (k *askedTalk) messageCame(side, id int, b []byte, end bool) {
	p := k.peers[side]
	if side == 1 && k.away >= 0 && id >= k.away {
		k.met["not looked at"]++
		return
	}
	if p.messages[id] == nil {
		p.messages[id] = &askedMessage{}
	}
	m := p.messages[id]
	if m.dead {
		k.met["not looked at"]++
		return
	}
	if m.end {
		k.met["behind an end"]++
		return
	}
	m.all, m.end = append(m.all, b...), end
	if !m.waits {
		k.look(side, id)
	}
}

// look takes frame by frame.
func (k *askedTalk) look(side, id int) {
	p, m := k.peers[side], k.peers[side].messages[id]
	for {
		f, next, code := readHyperAsked(firstBytes(m.all[m.read:]), 0)
		if code == impl.ErrShort {
			break
		}
		state := 0
		if code == impl.OK {
			state, code = arrangeAsked(m.state, f.Kind)
		}
		if code != impl.OK {
			k.fail(side, code)
			return
		}
		if f.Kind == 1 {
			fields, need, code := decodeAsked(p.decoder, f.Data)
			if code == impl.ErrBlocked {
				m.waits = true
				k.met["waited"]++
				count := 0
				for _, other := range p.messages {
					if other.waits {
						count++
					}
				}
				k.met[fmt.Sprintf("waited: %d", count)]++
				if count > k.s.Blocked {
					k.fail(side, impl.ErrTable)
				}
				return
			}
			if code != impl.OK {
				k.fail(side, code)
				return
			}
			if need > 0 {
				k.write(side, oneWayAsked(side, 2), prefixAsked(id, 7, 128))
				p.decoder.Told = max(p.decoder.Told, need)
				k.met["read by the table"]++
			}
			if m.fields == nil && m.state == 0 {
				m.fields = fields
			}
		}
		if f.Kind == 0 {
			m.body = append(m.body, f.Data...)
		}
		m.state = state
		m.read += next
	}
	if !m.end {
		return
	}
	if side == 1 {
		k.request(id, m)
	} else {
		k.response(id, m)
	}
}

// lengthOK asks the content of a message of which an end has come.
func (m *askedMessage) lengthOK(list []impl.Field) bool {
	n, code := lengthAsked(list)
	return m.read == len(m.all) && m.state > 0 && code == impl.OK && (n == -1 || n == len(m.body)) && len(m.body) <= 8192
}

func (k *askedTalk) request(id int, m *askedMessage) {
	r, code := requestOfAsked(m.fields)
	answer, content := impl.Response{Status: 400, Fields: pairsOf("content-length", "0")}, []byte(nil)
	if code == impl.OK && m.lengthOK(r.Fields) {
		answer, content, _ = answerAsked(k.s.Routes, r, m.body)
	}
	k.met["answered "+strconv.Itoa(answer.Status)]++
	list, _ := responseFieldsAsked(answer)
	k.section(1, id, list)
	if len(content) == 0 {
		k.half(1, id).end = true
		return
	}
	c := askedContent{id: id, bytes: content}
	if at := slices.IndexFunc(r.Fields, func(f impl.Field) bool { return f.Name == "priority" }); at >= 0 {
		c.field = r.Fields[at].Value
	}
	k.contents = append(k.contents, c)
}

func (k *askedTalk) response(id int, m *askedMessage) {
	reply := &k.replies[id/4]
	refused := reply.Code == impl.ErrCancel
	r, code := responseOfAsked(m.fields)
	if code != impl.OK || !m.lengthOK(r.Fields) {
		reply.Code = impl.ErrMessage
		k.met["no response"]++
		k.met["no response to what was refused"] += way(refused)
		return
	}
	reply.Status, reply.Fields, reply.Body, reply.Done = r.Status, r.Fields, slices.Clone(m.body), true
	k.met["done"]++
	k.met["done though refused"] += way(refused)
}

// turn tells whether something was written.
func (k *askedTalk) turn() bool {
	if k.peers[1].code != impl.OK || len(k.contents) == 0 {
		return false
	}
	var list []impl.Waiting
	for _, c := range k.contents {
		text, known := k.priority[c.id]
		if !known {
			text = c.field
		}
		w := impl.Waiting{Id: c.id, Sent: c.sent}
		w.Urgency, w.Turns = priorityAsked(text)
		list = append(list, w)
	}
	if len(list) > 1 {
		k.met["a choice"]++
	}
	at := nextAsked(list)
	c := &k.contents[at]
	piece := c.bytes[c.sent:min(len(c.bytes), c.sent+k.s.Piece)]
	k.write(1, c.id, hyperBytesAsked(impl.HFrame{Kind: 0, Data: piece}))
	c.sent += len(piece)
	if c.sent == len(c.bytes) {
		k.half(1, c.id).end = true
		k.contents = slices.Delete(k.contents, at, at+1)
	}
	return true
}

func (k *askedTalk) ask(op impl.TalkOp) impl.TalkObs {
	n, code := lengthAsked(op.Request.Fields)
	switch {
	case !requestOKAsked(op.Request) || len(op.Body) > 8192 || code != impl.OK || n != -1 && n != len(op.Body):
		return impl.TalkObs{Code: impl.ErrBad}
	case len(k.replies) == 16:
		return impl.TalkObs{Code: impl.ErrLimit}
	case k.refused:
		return impl.TalkObs{Code: impl.ErrCancel}
	}
	id := 4 * len(k.replies)
	list, _ := requestFieldsAsked(op.Request)
	if !k.section(0, id, list) {
		return impl.TalkObs{Code: impl.ErrLong}
	}
	for at := 0; at < len(op.Body); at += k.s.Piece {
		k.write(0, id, hyperBytesAsked(impl.HFrame{Kind: 0, Data: op.Body[at:min(len(op.Body), at+k.s.Piece)]}))
	}
	k.half(0, id).end = true
	k.replies = append(k.replies, impl.Reply{Id: id})
	return impl.TalkObs{Id: id}
}

func (k *askedTalk) all() {
	for again := true; again; {
		again = false
		for side := range 2 {
			for _, id := range slices.Sorted(maps.Keys(k.peers[side].halves)) {
				again = k.come(side, id, 1<<40) || again
			}
		}
		again = k.turn() || again
	}
}

func (k *askedTalk) drop(id int) int {
	if !inRange(id, 0, 4*len(k.replies)-1) || id%4 != 0 {
		return impl.ErrBad
	}
	r := &k.replies[id/4]
	if r.Done || r.Code != impl.OK {
		return impl.ErrState
	}
	r.Code = impl.ErrCancel
	m := k.peers[0].messages[id]
	if m == nil {
		m = &askedMessage{}
		k.peers[0].messages[id] = m
	}
	if m.waits {
		k.met["gave up what waits"]++
	}
	m.dead, m.waits = true, false
	k.write(0, oneWayAsked(0, 2), prefixAsked(id, 6, 64))
	return impl.OK
}

func (k *askedTalk) goaway() int {
	if k.away >= 0 {
		return impl.ErrState
	}
	k.away = 0
	for id, h := range k.peers[0].halves {
		if id%4 == 0 && (h.came > 0 || h.endCame) {
			k.away = max(k.away, id+4)
		}
	}
	k.write(1, oneWayAsked(1, 0), hyperBytesAsked(impl.HFrame{Kind: 7, A: k.away}))
	return impl.OK
}

func (k *askedTalk) prior(id int, text string) int {
	if !inRange(id, 0, 4*len(k.replies)-1) || id%4 != 0 || len(text) > 1024 {
		return impl.ErrBad
	}
	k.write(0, oneWayAsked(0, 0), hyperBytesAsked(impl.HFrame{Kind: 15, A: id, Data: []byte(text)}))
	return impl.OK
}

func (k *askedTalk) raw(op impl.TalkOp) int {
	h := k.peers[op.Side].halves[op.Id]
	if h == nil || h.end || len(op.Body) > 8192 {
		return impl.ErrBad
	}
	h.all = append(h.all, op.Body...)
	h.end = op.Text == "end"
	return impl.OK
}

func (k *askedTalk) run(op impl.TalkOp) impl.TalkObs {
	if !inRange(op.Kind, 1, 8) || !inRange(op.Side, 0, 1) {
		return impl.TalkObs{Code: impl.ErrBad}
	}
	doer := map[int]int{impl.TTurn: 1, impl.TGoaway: 1, impl.TRaw: op.Side}[op.Kind]
	if op.Kind != impl.TMove && op.Kind != impl.TAll && k.peers[doer].code != impl.OK {
		return impl.TalkObs{Code: impl.ErrState}
	}
	switch op.Kind {
	case impl.TAsk:
		return k.ask(op)
	case impl.TMove:
		if k.peers[op.Side].halves[op.Id] == nil || op.N < 1 {
			return impl.TalkObs{Code: impl.ErrBad}
		}
		k.come(op.Side, op.Id, op.N)
	case impl.TAll:
		k.all()
	case impl.TTurn:
		if !k.turn() {
			return impl.TalkObs{Code: impl.ErrState}
		}
	case impl.TDrop:
		return impl.TalkObs{Code: k.drop(op.Id)}
	case impl.TGoaway:
		return impl.TalkObs{Code: k.goaway()}
	case impl.TPrior:
		return impl.TalkObs{Code: k.prior(op.Id, op.Text)}
	case impl.TRaw:
		return impl.TalkObs{Code: k.raw(op)}
	}
	return impl.TalkObs{}
}

func talkSetupOKAsked(s impl.TalkSetup) bool {
	return len(s.Routes) <= 16 && allOf(s.Routes, routeOKAsked) && inRange(s.ClientTable, 0, 4096) && inRange(s.ServerTable, 0, 4096) &&
		inRange(s.Blocked, 0, 64) && inRange(s.Piece, 1, 4096)
}

func talkAsked(s impl.TalkSetup, ops []impl.TalkOp) (impl.TalkOut, map[string]int) {
	if len(ops) > 200 {
		return impl.TalkOut{Code: impl.ErrLong}, nil
	}
	if !talkSetupOKAsked(s) {
		return impl.TalkOut{Code: impl.ErrBad}, nil
	}
	k := newAskedTalk(s)
	var out impl.TalkOut
	for _, op := range ops {
		out.Obs = append(out.Obs, k.run(op))
	}
	out.Replies, out.Client, out.Server = k.replies, k.peers[0].code, k.peers[1].code
	return out, k.met
}

func sameReply(a, b impl.Reply) bool {
	return a.Id == b.Id && a.Code == b.Code && a.Status == b.Status && a.Done == b.Done && slices.Equal(a.Fields, b.Fields) && bytes.Equal(a.Body, b.Body)
}

func sameTalk(a, b impl.TalkOut) bool {
	return a.Code == b.Code && a.Client == b.Client && a.Server == b.Server && slices.Equal(a.Obs, b.Obs) && slices.EqualFunc(a.Replies, b.Replies, sameReply)
}

func toldReply(r impl.Reply) string {
	return fmt.Sprintf("{%d: code %d, %d, done %v, %s, %d bytes %.40q}", r.Id, r.Code, r.Status, r.Done, toldList(r.Fields), len(r.Body), r.Body)
}

func toldTalkOut(o impl.TalkOut) string {
	lines := []string{fmt.Sprintf("code %d, client %d, server %d, %v", o.Code, o.Client, o.Server, o.Obs)}
	for _, r := range o.Replies {
		lines = append(lines, toldReply(r))
	}
	return strings.Join(lines, "\n    ")
}

var talkKinds = []string{"none", "ask", "move", "all", "turn", "drop", "goaway", "prior", "raw"}

func toldTalkOp(op impl.TalkOp) string {
	kind := strconv.Itoa(op.Kind)
	if inRange(op.Kind, 0, 8) {
		kind = talkKinds[op.Kind]
	}
	text := fmt.Sprintf("%s: side %d, id %d, n %d, text %.30q, %d bytes %.20x", kind, op.Side, op.Id, op.N, op.Text, len(op.Body), op.Body)
	if op.Kind == impl.TAsk {
		text += " " + toldRequest(op.Request)
	}
	return text
}

func toldTalk(s impl.TalkSetup, ops []impl.TalkOp) string {
	lines := []string{fmt.Sprintf("tables %d %d, blocked %d, piece %d, %s", s.ClientTable, s.ServerTable, s.Blocked, s.Piece, toldRoutes(s.Routes))}
	for _, op := range ops {
		lines = append(lines, toldTalkOp(op))
	}
	return strings.Join(lines, "\n  ")
}

func checkTalk(t *testing.T, s impl.TalkSetup, ops []impl.TalkOp, want impl.TalkOut) {
	t.Helper()
	if got := impl.TalkRun(s, ops); !sameTalk(got, want) {
		t.Errorf("TalkRun:\n    %s\n  want\n    %s\n  of %s", toldTalkOut(got), toldTalkOut(want), toldTalk(s, ops))
	}
}

// checkTalkAsked tells also what was met in the run.
func checkTalkAsked(t *testing.T, s impl.TalkSetup, ops []impl.TalkOp) (impl.TalkOut, map[string]int) {
	t.Helper()
	want, met := talkAsked(s, ops)
	checkTalk(t, s, ops, want)
	return want, met
}

// checkTalkEach runs each beginning too: no answer hangs on what comes behind it.
func checkTalkEach(t *testing.T, s impl.TalkSetup, ops []impl.TalkOp) (impl.TalkOut, map[string]int) {
	t.Helper()
	for n := range ops {
		checkTalkAsked(t, s, ops[:n])
	}
	return checkTalkAsked(t, s, ops)
}
