package tests

import (
	"bytes"
	"maps"
	"slices"

	"loop.example/g00012/impl"
)

// The second program of chapter 14. It goes by the chapter, word by word, in one goroutine, over the second programs of
// the chapters ahead; the bytes of packets alone are made and read by the program itself.

// linkDatagram is one in the air.
type linkDatagram struct {
	bytes      []byte
	to, addr   int
	came, lost bool
}

// linkKept is a packet that was sent.
type linkKept struct {
	num, size, time int
	frames          []impl.Frame
}

type askedSpace struct {
	form                 int
	keyed                bool
	sending, opening     impl.Keys
	sendPhase, openPhase int
	next, greatest       int
	came                 []impl.Range
	owed, probe          bool
	kept                 []linkKept
	rec                  *askedRecovery
	out                  *askedSender
	in                   *askedReceiver
	read                 []byte
}

func newAskedSpace(form int) *askedSpace {
	s := &askedSpace{form: form, greatest: -1, rec: newAskedRecovery(0), out: newAskedSender(), in: newAskedReceiver(16384)}
	s.out.do(creditOp(65536))
	return s
}

type askedEnd struct {
	link                        *askedLink
	server                      bool
	state, code, version        int
	sendsTo, own, token, origin []byte
	spaces                      [3]*askedSpace
	cc                          *askedCc
	path                        *askedPaths
	tell                        []impl.Frame
	flow                        *askedFlow
	out                         map[int]*askedSender
	in                          map[int]*askedReceiver
	hello, other                impl.Hello
	knows                       bool
	agreed                      impl.Agreement
	heardAt, spokeAt            int
	opened, changed, retried    bool
	// What it does ahead of speaking, of the last chapter.
	carry func()
}

type askedLink struct {
	setup impl.LinkSetup
	now   int
	addr  int
	air   []linkDatagram
	ends  [2]*askedEnd
	// How often a thing was met that a run meets seldom.
	met map[string]int
}

func (l *askedLink) derived(label string, n int) []byte { return impl.Derive(l.setup.Seed, label, n) }

func (l *askedLink) put(to int, packet []byte) {
	if len(l.air) < 600 {
		l.air = append(l.air, linkDatagram{bytes: packet, to: to, addr: l.addr})
	} else {
		l.met["no room in the air"]++
	}
}

func newAskedLink(setup impl.LinkSetup) *askedLink {
	l := &askedLink{setup: setup, met: map[string]int{}}
	for side := range l.ends {
		e := &askedEnd{link: l, server: side == 1, cc: newAskedCc(setup.Cc), path: newAskedPaths(side == 1), out: map[int]*askedSender{}, in: map[int]*askedReceiver{}}
		for i, form := range []int{impl.FormInitial, impl.FormHandshake, impl.FormShort} {
			e.spaces[i] = newAskedSpace(form)
		}
		l.ends[side] = e
	}
	l.ends[1].own = l.derived("server id", 8)
	c := l.ends[0]
	c.own, c.sendsTo = l.derived("client id", 8), l.derived("first id", 8)
	c.startClient(setup.Versions[0])
	c.speak()
	return l
}

// startClient is how a client begins, and begins anew.
func (e *askedEnd) startClient(version int) {
	e.version = version
	e.spaces[0] = newAskedSpace(impl.FormInitial)
	s := e.spaces[0]
	s.keyed = true
	s.sending, s.opening = impl.InitialKeys(version, e.link.derived("first id", 8))
	e.hello = impl.Hello{Kind: impl.HelloClient, Random: e.link.derived("client", 16), Versions: e.link.setup.Versions, Names: e.link.setup.Names, Params: e.link.setup.Client}
	e.hello.Params.First = e.own
	b, _ := impl.HelloBytes(e.hello)
	s.out.do(impl.SendOp{Kind: impl.SWrite, Data: b})
}

func (e *askedEnd) own0() impl.Params {
	if e.server {
		return e.link.setup.Server
	}
	return e.link.setup.Client
}

func bytesOfFrames(frames []impl.Frame) []byte {
	var b []byte
	for _, f := range frames {
		piece, code := impl.FrameBytes(f)
		if code != impl.OK {
			panic("a frame that is none")
		}
		b = append(b, piece...)
	}
	return b
}

func anyAsks(frames []impl.Frame) bool {
	return slices.ContainsFunc(frames, func(f impl.Frame) bool { return !slices.Contains([]int{0, 2, 28, 29}, f.Kind) })
}

func (e *askedEnd) speak() {
	if e.state == 1 && e.carry != nil {
		e.carry()
	}
	for n := 0; n < 16 && e.state != 2; n++ {
		space := min(1080, e.path.may()-50)
		if space < 20 {
			e.link.met["no room on the path"]++
			return
		}
		if space < 1080 {
			e.link.met["little room on the path"]++
		}
		sent := false
		for i, s := range e.spaces {
			if !s.keyed {
				continue
			}
			if frames := e.find(i, space); len(frames) > 0 {
				e.make(s, frames)
				sent = true
				break
			}
		}
		if !sent {
			return
		}
		if n == 15 {
			e.link.met["burst"]++
		}
	}
}

// find gives the frames of the next packet of a space.
func (e *askedEnd) find(i, space int) []impl.Frame {
	s := e.spaces[i]
	var frames []impl.Frame
	room := func() int { return space - len(bytesOfFrames(frames)) }
	if s.owed {
		list := s.came
		if len(list) > 32 {
			list = list[len(list)-32:]
			e.link.met["more than 32 ranges"]++
		}
		ack := impl.Frame{Kind: impl.FAck, Ranges: list}
		if len(bytesOfFrames([]impl.Frame{ack})) > room() {
			ack.Ranges = list[len(list)-1:]
			e.link.met["an acknowledgement longer than room"]++
		}
		frames = append(frames, ack)
	}
	may := e.cc.run(ccAsk(1200)).May
	if !may {
		e.link.met["window full"]++
	}
	if may || s.probe {
		if n := room() - 12; n >= 1 {
			if p := s.out.do(pullOp(n)); p.Some {
				frames = append(frames, impl.Frame{Kind: impl.FCrypto, A: p.Off, Data: p.Data})
			}
		}
		if i == 2 && e.state == 1 {
			for len(e.tell) > 0 && len(bytesOfFrames(e.tell[:1])) <= room() {
				frames = append(frames, e.tell[0])
				e.tell = slices.Delete(e.tell, 0, 1)
			}
			if len(e.tell) > 0 {
				e.link.met["no room for what is to be told"]++
			}
			for _, id := range slices.Sorted(maps.Keys(e.out)) {
				if room() < 40 {
					break
				}
				if p := e.piece(id, room()-24); p.Some {
					frames = append(frames, impl.Frame{Kind: impl.FStream, A: id, B: p.Off, Data: p.Data, Fin: p.Fin})
				}
			}
		}
	}
	if s.probe && !anyAsks(frames) {
		frames = append(frames, impl.Frame{Kind: impl.FPing})
		e.link.met["ping"]++
	}
	return frames
}

// piece tries first what a piece would be without any credit: then it is of what was lost, or the end alone.
func (e *askedEnd) piece(id, n int) impl.SendObs {
	out := e.out[id]
	fresh := bytes.Count(out.letters, []byte("n"))
	if !out.open() || fresh == 0 || bytes.Contains(out.letters, []byte("l")) {
		return out.do(pullOp(n))
	}
	granted := e.flow.run(sends(id, min(n, fresh))).Count
	if granted < min(n, fresh) {
		e.link.met["credit"]++
	}
	if granted == 0 {
		return impl.SendObs{}
	}
	out.do(creditOp(out.sent() + granted))
	return out.do(pullOp(granted))
}

func (e *askedEnd) make(s *askedSpace, frames []impl.Frame) {
	body := bytesOfFrames(frames)
	fill := 4
	if !e.server && s.form == impl.FormInitial {
		fill = 1080
	}
	if len(body) < fill {
		body = append(body, bytesOfFrames([]impl.Frame{{Kind: impl.FPadding, A: fill - len(body)}})...)
	}
	h := impl.Header{Form: s.form, Dst: e.sendsTo, Num: s.next, NumLen: impl.NumBytes(s.next, s.rec.largest)}
	if h.NumLen == 0 {
		h.NumLen = 4
	}
	switch {
	case s.form == impl.FormShort:
		h.Phase = s.sendPhase
	default:
		h.Version, h.Src = e.version, e.own
		if s.form == impl.FormInitial && e.retried {
			h.Token = e.token
		}
	}
	packet, code := impl.ProtectPacket(s.sending, h, body)
	if code != impl.OK {
		panic("a packet that is none")
	}
	n := len(packet)
	e.link.put(1-way(e.server), packet)
	s.kept = append(s.kept, linkKept{h.Num, n, e.link.now, frames})
	s.next++
	s.owed, s.probe = false, false
	e.spokeAt = e.link.now
	// The packet by which an end closes is counted also where the path does not let it.
	e.path.sent[e.path.used] += n
	if code := s.rec.run(impl.RecOp{Kind: impl.RSent, Time: e.link.now, Num: h.Num, Size: n, Asks: anyAsks(frames)}).Code; code != impl.OK {
		panic("sent, but not to be recovered")
	}
	if anyAsks(frames) {
		e.cc.run(ccSent(e.link.now, n))
	}
}

// closes by the frame; a code of 0 is that of one who closes by hand.
func (e *askedEnd) closes(code int, word impl.Frame) {
	for _, i := range []int{2, 1, 0} {
		if e.spaces[i].keyed {
			e.make(e.spaces[i], []impl.Frame{word})
			break
		}
	}
	e.state, e.code = 2, code
}

func (e *askedEnd) closesWith(code int) { e.closes(code, impl.Frame{Kind: impl.FClose, A: code}) }

func (e *askedEnd) hear(b []byte, addr int) {
	if e.state == 2 {
		e.link.met["to a closed end"]++
		return
	}
	for _, packet := range impl.SplitDatagram(b, 8) {
		if e.state == 2 {
			return
		}
		h, _, _ := impl.Peek(packet, 8)
		switch {
		case h.Form == impl.FormVersions:
			e.hearVersions(packet)
		case h.Form == impl.FormRetry:
			e.hearRetry(packet)
		case h.Form == impl.FormInitial && e.server && !e.spaces[0].keyed:
			e.hearFirst(h, packet, len(b), addr)
		default:
			e.hearOther(h.Form, packet, len(b), addr)
		}
	}
	e.speak()
}

func (e *askedEnd) hearVersions(packet []byte) {
	if e.server || e.state != 0 || e.opened || e.changed {
		e.link.met["versions not heard"]++
		return
	}
	list, _ := impl.ReadVersions(packet)
	if slices.Contains(list, e.version) {
		e.link.met["versions with the one in use"]++
		return
	}
	version := chooseAsked(e.link.setup.Versions, list)
	if version == 0 {
		e.state, e.code = 2, impl.ErrVersion
		return
	}
	e.link.met["version changed"]++
	e.changed = true
	next := e.spaces[0].next
	e.startClient(version)
	e.spaces[0].next = next
	e.cc = newAskedCc(e.link.setup.Cc)
}

func (e *askedEnd) hearRetry(packet []byte) {
	if e.server || e.state != 0 || e.opened || e.retried {
		e.link.met["retry not heard"]++
		return
	}
	h, code := impl.RetryOK(packet, e.sendsTo)
	if code != impl.OK {
		e.link.met["retry not right"]++
		return
	}
	e.retried = true
	e.token, e.sendsTo = h.Token, h.Src
	s := e.spaces[0]
	s.sending, s.opening = impl.InitialKeys(e.version, h.Src)
	if code := s.out.do(lostOp(0, s.out.sent())).Code; code != impl.OK {
		panic("a hello that was not on its way")
	}
	e.link.met["retry"]++
}

func (e *askedEnd) hearFirst(h impl.Header, packet []byte, n, addr int) {
	l := e.link
	if !slices.Contains(l.setup.ServerVersions, h.Version) {
		b, _ := impl.VersionsPacket(h.Src, h.Dst, l.setup.ServerVersions)
		l.put(0, b)
		return
	}
	origin := h.Dst
	if l.setup.Retry {
		key, from := l.derived("key", 16), []byte{byte(addr)}
		if len(h.Token) == 0 {
			token, _ := impl.TokenMake(key, from, l.now, h.Dst)
			b, _ := impl.RetryPacket(impl.Header{Form: impl.FormRetry, Version: h.Version, Dst: h.Src, Src: l.derived("retry id", 8), Token: token}, h.Dst)
			l.put(0, b)
			return
		}
		var code int
		if origin, code = impl.TokenCheck(key, from, l.now, h.Token); code != impl.OK {
			l.met["token not right"]++
			return
		}
	}
	client, server := impl.InitialKeys(h.Version, h.Dst)
	header, body, code := impl.OpenPacket(client, packet, 8, -1)
	if code != impl.OK {
		l.met["first packet that does not open"]++
		return
	}
	s := e.spaces[0]
	s.keyed, s.sending, s.opening = true, server, client
	e.version, e.sendsTo, e.origin = h.Version, h.Src, origin
	e.opens(0, header, body, n, addr)
}

func (e *askedEnd) hearOther(form int, packet []byte, n, addr int) {
	i := slices.Index([]int{impl.FormInitial, impl.FormHandshake, impl.FormShort}, form)
	s := e.spaces[i]
	if !s.keyed || i == 2 && e.state == 0 {
		e.link.met["too early"]++
		return
	}
	h, body, code := impl.OpenPacket(s.opening, packet, 8, s.greatest)
	if code != impl.OK && i == 2 {
		next := impl.NextKeys(s.opening)
		h, body, code = impl.OpenPacket(next, packet, 8, s.greatest)
		if code == impl.OK && h.Phase != s.openPhase && !hasAsked(s.came, h.Num) {
			e.link.met["keys followed"]++
			s.opening, s.openPhase = next, h.Phase
			if s.sendPhase != h.Phase {
				s.sending, s.sendPhase = impl.NextKeys(s.sending), h.Phase
			}
		}
	}
	if code != impl.OK {
		e.link.met["does not open"]++
		return
	}
	if hasAsked(s.came, h.Num) {
		e.link.met["came ahead"]++
		return
	}
	e.opens(i, h, body, n, addr)
}

// opens is what becomes of a packet that was opened.
func (e *askedEnd) opens(i int, h impl.Header, body []byte, n, addr int) {
	s := e.spaces[i]
	e.opened, e.heardAt = true, e.link.now
	if e.server {
		e.counts(i, h.Num, n, addr)
	}
	frames, code := impl.ReadFrames(body)
	if code == impl.OK && slices.ContainsFunc(frames, func(f impl.Frame) bool { return !impl.FrameFits(f.Kind, s.form) }) {
		code = impl.ErrFrame
	}
	if code != impl.OK {
		e.closesWith(code)
		return
	}
	if len(addAsked(s.came, h.Num)) == 64 && len(s.came) == 64 {
		e.link.met["more ranges than are kept"]++
	}
	s.came = addAsked(s.came, h.Num)
	s.greatest = max(s.greatest, h.Num)
	if anyAsks(frames) {
		s.owed = true
	}
	for _, f := range frames {
		if code := e.frame(i, f, h.Src); code != impl.OK {
			e.closesWith(code)
		}
		if e.state == 2 {
			return
		}
	}
}

func (e *askedEnd) counts(i, num, n, addr int) {
	was := e.path.used
	if num > e.spaces[i].greatest {
		e.path.run(comes(addr, n))
	} else {
		e.link.met["an older packet"]++
	}
	if i == 1 {
		e.path.valid[e.path.used] = true
	}
	if e.path.used != was {
		data := e.link.derived("path", 8)
		data[7] ^= byte(e.path.used)
		e.tell = append(e.tell, impl.Frame{Kind: impl.FChallenge, Data: data})
		e.path.run(challenges(string(data)))
		e.link.met["address changed"]++
	}
}

func (e *askedEnd) frame(i int, f impl.Frame, src []byte) int {
	s := e.spaces[i]
	switch f.Kind {
	case impl.FAck:
		obs := s.rec.run(impl.RecOp{Kind: impl.RAck, Time: e.link.now, Ranges: f.Ranges})
		if obs.Code != impl.OK {
			return obs.Code
		}
		for _, num := range obs.Acked {
			p := s.packet(num)
			e.cc.run(ccAcked(e.link.now, p.time, p.size, max(1, obs.Rtt.Latest)))
			e.fate(s, p, impl.SAcked)
		}
		e.lost(s, obs.Lost)
		return impl.OK
	case impl.FCrypto:
		if code := s.in.run(impl.RecvOp{Kind: impl.RData, Off: f.A, Data: f.Data}).Code; code != impl.OK {
			return code
		}
		s.read = append(s.read, s.in.run(readOp(1<<20)).Data...)
		return e.look(i, src)
	case impl.FClose, impl.FAppClose:
		e.state, e.code = 2, impl.ErrClosed
		return impl.OK
	}
	if e.state != 1 {
		return impl.OK
	}
	return e.openFrame(f)
}

func (s *askedSpace) packet(num int) linkKept {
	return s.kept[slices.IndexFunc(s.kept, func(p linkKept) bool { return p.num == num })]
}

func (e *askedEnd) lost(s *askedSpace, nums []int) {
	for _, num := range nums {
		p := s.packet(num)
		e.cc.run(ccLost(e.link.now, p.time, p.size))
		e.fate(s, p, impl.SLost)
		e.link.met["lost"]++
	}
}

func (e *askedEnd) fate(s *askedSpace, p linkKept, kind int) {
	for _, f := range p.frames {
		switch f.Kind {
		case impl.FCrypto:
			s.out.do(impl.SendOp{Kind: kind, Off: f.A, N: len(f.Data)})
		case impl.FStream:
			e.out[f.A].do(impl.SendOp{Kind: kind, Off: f.B, N: len(f.Data), Fin: f.Fin})
		case impl.FAck, impl.FPing:
		default:
			if kind == impl.SLost {
				e.tell = append(e.tell, f)
				e.link.met["told again"]++
			}
		}
	}
}

// parts gives a stream its parts.
func (e *askedEnd) parts(id int) (*askedSender, *askedReceiver) {
	if e.flow.maySend(id) && e.out[id] == nil {
		e.out[id] = newAskedSender()
	}
	if e.flow.mayGet(id) && e.in[id] == nil {
		e.in[id] = newAskedReceiver(e.own0().StreamWindow)
	}
	return e.out[id], e.in[id]
}

func (e *askedEnd) openFrame(f impl.Frame) int {
	end := map[int]int{impl.FStream: f.B + len(f.Data), impl.FReset: f.C}
	theirs := !e.flow.ours(f.A)
	switch f.Kind {
	case impl.FStream, impl.FReset:
		if code := e.flow.run(arrives(f.A, end[f.Kind])).Code; code != impl.OK {
			return code
		}
		_, in := e.parts(f.A)
		if f.Kind == impl.FReset {
			return in.run(impl.RecvOp{Kind: impl.RReset, N: f.C}).Code
		}
		return in.run(impl.RecvOp{Kind: impl.RData, Off: f.B, Data: f.Data, Fin: f.Fin}).Code
	case impl.FStop, impl.FMaxStreamData:
		if theirs {
			if code := e.flow.run(arrives(f.A, 0)).Code; code != impl.OK {
				return code
			}
		}
		if f.Kind == impl.FMaxStreamData {
			return e.flow.run(streamIn(f.A, f.B)).Code
		}
		if !e.flow.maySend(f.A) {
			return impl.ErrState
		}
		out, _ := e.parts(f.A)
		if obs := out.do(giveUpOp()); obs.Code == impl.OK {
			e.tell = append(e.tell, impl.Frame{Kind: impl.FReset, A: f.A, B: f.B, C: obs.Off})
		}
	case impl.FMaxData:
		return e.flow.run(dataIn(f.A)).Code
	case impl.FMaxStreams:
		return e.flow.run(streamsIn(f.B == 1, f.A)).Code
	case impl.FChallenge:
		e.tell = append(e.tell, impl.Frame{Kind: impl.FResponse, Data: f.Data})
	case impl.FResponse:
		if e.path.run(responds(string(f.Data))).Answer {
			e.link.met["address answered"]++
		}
	}
	return impl.OK
}

// look is what is done with the crypto bytes of a space.
func (e *askedEnd) look(i int, src []byte) int {
	s := e.spaces[i]
	if i == 0 && !e.knows {
		h, _, code := impl.ReadHello(s.read)
		if code == impl.ErrShort {
			return impl.OK
		}
		if code != impl.OK {
			return code
		}
		if e.server {
			return e.serverLooks(h)
		}
		return e.clientLooks(h, src)
	}
	if i == 1 && e.state == 0 && len(s.read) >= 9 {
		mark := byte(20 + way(e.server))
		if s.read[0] != mark || !bytes.Equal(s.read[1:9], e.agreed.Check) {
			return impl.ErrKey
		}
		if e.server {
			e.tell = append(e.tell, impl.Frame{Kind: impl.FDone})
		} else {
			s.out.do(impl.SendOp{Kind: impl.SWrite, Data: join([]byte{21}, e.agreed.Check)})
		}
		e.state = 1
		mine, theirs := e.own0(), e.other.Params
		e.flow = newAskedFlow(impl.FlowSetup{Server: e.server, ConnWindow: mine.ConnWindow, StreamWindow: mine.StreamWindow, TwoWay: mine.TwoWay, OneWay: mine.OneWay,
			PeerConn: theirs.ConnWindow, PeerStream: theirs.StreamWindow, PeerTwoWay: theirs.TwoWay, PeerOneWay: theirs.OneWay})
	}
	return impl.OK
}

func (e *askedEnd) serverLooks(h impl.Hello) int {
	setup := e.link.setup
	switch {
	case h.Kind != impl.HelloClient:
		return impl.ErrForm
	case !bytes.Equal(h.Params.First, e.sendsTo):
		return impl.ErrParam
	case !slices.Contains(h.Versions, e.version):
		return impl.ErrVersion
	}
	name := ""
	for _, each := range setup.ServerNames {
		if name == "" && slices.Contains(h.Names, each) {
			name = each
		}
	}
	if name == "" {
		return impl.ErrVersion
	}
	e.hello = impl.Hello{Kind: impl.HelloServer, Version: e.version, Random: e.link.derived("server", 16), Names: []string{name}, Params: setup.Server}
	e.hello.Params.Origin, e.hello.Params.First = e.origin, e.own
	return e.agrees(h, h, e.hello)
}

func (e *askedEnd) clientLooks(h impl.Hello, src []byte) int {
	switch {
	case h.Kind != impl.HelloServer:
		return impl.ErrForm
	case !bytes.Equal(h.Params.Origin, e.link.derived("first id", 8)), !bytes.Equal(h.Params.First, src):
		return impl.ErrParam
	}
	code := e.agrees(h, e.hello, h)
	if code == impl.OK && h.Version != e.version {
		return impl.ErrVersion
	}
	return code
}

func (e *askedEnd) agrees(other, client, server impl.Hello) int {
	a, code := impl.Agree(e.link.setup.Shared, client, server)
	if code != impl.OK {
		return code
	}
	e.agreed, e.other, e.knows = a, other, true
	for i, pair := range [][2][]byte{{a.Client1, a.Server1}, {a.Client2, a.Server2}} {
		s := e.spaces[i+1]
		s.keyed, s.sending, s.opening = true, impl.KeysOf(pair[way(e.server)]), impl.KeysOf(pair[1-way(e.server)])
	}
	if e.server {
		b, _ := impl.HelloBytes(server)
		e.spaces[0].out.do(impl.SendOp{Kind: impl.SWrite, Data: b})
		e.spaces[1].out.do(impl.SendOp{Kind: impl.SWrite, Data: join([]byte{20}, a.Check)})
	} else {
		e.sendsTo = server.Params.First
	}
	return impl.OK
}
