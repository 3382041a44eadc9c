package tests

import (
	"slices"

	"loop.example/g00012/impl"
)

// The timers, operations and answers of the second program of chapter 14.

// linkTimer is one that runs: 0 is that of silence, 1 to 3 are those of the spaces, 4 is the client's at first.
type linkTimer struct{ at, side, kind int }

func (e *askedEnd) timers(side int) []linkTimer {
	if e.state == 2 {
		return nil
	}
	var list []linkTimer
	idle := []int{e.own0().Idle}
	if e.knows {
		idle = append(idle, e.other.Params.Idle)
	}
	if idle = slices.DeleteFunc(idle, func(n int) bool { return n == 0 }); len(idle) > 0 {
		list = append(list, linkTimer{e.heardAt + slices.Min(idle), side, 0})
	}
	runs := false
	for i, s := range e.spaces {
		if at := s.rec.timer(); at != -1 {
			list = append(list, linkTimer{at, side, 1 + i})
			runs = true
		}
	}
	if !e.server && e.state == 0 && !runs {
		list = append(list, linkTimer{e.spokeAt + 3*333000, side, 4})
	}
	return list
}

// earliest gives the first in the order of the chapter.
func (l *askedLink) earliest(silence bool) (linkTimer, bool) {
	var first linkTimer
	found := false
	for side, e := range l.ends {
		for _, each := range e.timers(side) {
			if each.kind == 0 && !silence {
				continue
			}
			if !found || each.at < first.at {
				first, found = each, true
			}
		}
	}
	return first, found
}

func (l *askedLink) goOff(t linkTimer) {
	l.now = max(l.now, t.at)
	e := l.ends[t.side]
	switch t.kind {
	case 0:
		e.state, e.code = 2, impl.ErrIdle
	case 4:
		highest := e.spaces[0]
		for _, s := range e.spaces {
			if s.keyed {
				highest = s
			}
		}
		highest.probe = true
		l.met["the client's timer at first"]++
	default:
		s := e.spaces[t.kind-1]
		obs := s.rec.run(timerAt(l.now))
		e.lost(s, obs.Lost)
		if obs.Probe {
			s.probe = true
		} else {
			l.met["lost by a timer"] += len(obs.Lost)
		}
	}
	e.speak()
}

func (l *askedLink) deliver(n int) {
	l.air[n].came = true
	l.ends[l.air[n].to].hear(l.air[n].bytes, l.air[n].addr)
}

func (l *askedLink) tick(n int) {
	goal := min(l.now+n, maxTime)
	for range 200 {
		t, ok := l.earliest(true)
		if !ok || t.at > goal {
			break
		}
		l.goOff(t)
	}
	l.now = goal
}

func (e *askedEnd) busy() bool {
	if e.state == 2 {
		return false
	}
	if !e.server && e.state == 0 {
		return true
	}
	return e.spaces[0].rec.flight()+e.spaces[1].rec.flight()+e.spaces[2].rec.flight() > 0
}

func (l *askedLink) calm(n int) {
	for timers := 0; ; {
		if at := slices.IndexFunc(l.air, func(d linkDatagram) bool { return !d.came && !d.lost }); at >= 0 {
			l.deliver(at)
			continue
		}
		t, ok := l.earliest(false)
		if !l.ends[0].busy() && !l.ends[1].busy() || timers >= n || !ok || t.at > maxTime {
			return
		}
		l.goOff(t)
		timers++
	}
}

func badLink() impl.LinkObs { return impl.LinkObs{Code: impl.ErrBad} }

func wrongState() impl.LinkObs { return impl.LinkObs{Code: impl.ErrState} }

// answer is an operation, without what is told behind all of them.
func (l *askedLink) answer(op impl.LinkOp) impl.LinkObs {
	if !inRange(op.Side, 0, 1) || !inRange(op.Kind, 1, 13) {
		return badLink()
	}
	e := l.ends[op.Side]
	there := op.N >= 0 && op.N < len(l.air)
	switch op.Kind {
	case impl.LDeliver:
		if !there {
			return badLink()
		}
		l.deliver(op.N)
	case impl.LSpoil:
		if !there || op.At < 0 || op.At >= len(l.air[op.N].bytes) {
			return badLink()
		}
		b := slices.Clone(l.air[op.N].bytes)
		b[op.At] ^= byte((op.Id%256 + 256) % 256)
		l.ends[l.air[op.N].to].hear(b, l.air[op.N].addr)
	case impl.LTick:
		if !inRange(op.N, 0, 100000000) {
			return badLink()
		}
		l.tick(op.N)
	case impl.LCalm:
		if !inRange(op.N, 1, 60) {
			return badLink()
		}
		l.calm(op.N)
	case impl.LLose:
		for i := range l.air {
			l.air[i].lost = l.air[i].lost || !l.air[i].came
		}
	case impl.LRebind:
		if op.Side == 1 {
			return wrongState()
		}
		if l.addr == 255 {
			return impl.LinkObs{Code: impl.ErrLimit}
		}
		l.addr++
	case impl.LClose:
		if e.state == 2 {
			return wrongState()
		}
		if !inRange(op.N, 0, maxVar) {
			return badLink()
		}
		kind := impl.FClose
		if e.state == 1 {
			kind = impl.FAppClose
		}
		e.closes(0, impl.Frame{Kind: kind, A: op.N})
	default:
		if e.state != 1 {
			return wrongState()
		}
		obs := e.onSide(op)
		if obs.Code == 0 || obs.Code == impl.ErrCancel {
			e.speak()
		}
		return obs
	}
	return impl.LinkObs{}
}

// onSide is an operation on the side of an end that is open.
func (e *askedEnd) onSide(op impl.LinkOp) impl.LinkObs {
	out, in := e.parts(op.Id)
	maySend, mayGet := e.flow.maySend(op.Id), e.flow.mayGet(op.Id)
	if (op.Kind == impl.LReset || op.Kind == impl.LStop) && !inRange(op.N, 0, maxVar) {
		return badLink()
	}
	switch op.Kind {
	case impl.LOpen:
		obs := e.flow.run(opens(op.Flag))
		return impl.LinkObs{Code: obs.Code, Id: obs.Id}
	case impl.LWrite:
		if !maySend {
			return wrongState()
		}
		code := out.do(impl.SendOp{Kind: impl.SWrite, Data: op.Data}).Code
		if code == 0 && op.Flag {
			code = out.do(finishOp()).Code
		}
		return impl.LinkObs{Code: code}
	case impl.LRead:
		if !mayGet {
			return wrongState()
		}
		obs := in.run(readOp(op.N))
		if len(obs.Data) > 0 {
			e.tell = append(e.tell, e.flow.run(reads(op.Id, len(obs.Data))).Frames...)
		}
		if (obs.End || obs.Code == impl.ErrCancel) && !e.flow.ours(op.Id) && !e.flow.over[op.Id] {
			e.tell = append(e.tell, e.flow.run(ends(op.Id)).Frames...)
		}
		return impl.LinkObs{Code: obs.Code, Data: obs.Data, End: obs.End}
	case impl.LReset:
		if !maySend {
			return wrongState()
		}
		obs := out.do(giveUpOp())
		if obs.Code != 0 {
			return wrongState()
		}
		e.tell = append(e.tell, impl.Frame{Kind: impl.FReset, A: op.Id, B: op.N, C: obs.Off})
	case impl.LStop:
		if !mayGet {
			return wrongState()
		}
		e.tell = append(e.tell, impl.Frame{Kind: impl.FStop, A: op.Id, B: op.N})
	case impl.LUpdate:
		s := e.spaces[2]
		if s.sendPhase != s.openPhase {
			return wrongState()
		}
		s.sending, s.sendPhase = impl.NextKeys(s.sending), 1-s.sendPhase
		e.link.met["updates"]++
	}
	return impl.LinkObs{}
}

func (l *askedLink) run(op impl.LinkOp) impl.LinkObs {
	before := len(l.air)
	obs := l.answer(op)
	obs.Sent, obs.Time = len(l.air)-before, l.now
	obs.State0, obs.State1 = l.ends[0].state, l.ends[1].state
	return obs
}

func (e *askedEnd) told() impl.LinkEnd {
	cc, path := e.cc.run(impl.CcOp{}), e.path.run(impl.PathOp{})
	end := impl.LinkEnd{
		State: e.state, Code: e.code, Version: e.version, Flight: cc.Flight, Window: cc.Window,
		Addr: path.Addr, Valid: path.Valid, Came: e.path.came[path.Addr], Gone: e.path.sent[path.Addr], Rtt: e.spaces[2].rec.rtt,
	}
	if e.state == 1 {
		end.Name = e.agreed.Name
	}
	return end
}

func linkSetupOK(s impl.LinkSetup) bool {
	bare := func(p impl.Params) bool { return len(p.Origin)+len(p.Token)+len(p.First) == 0 }
	hello := func(versions []int, names []string) bool {
		return helloOKAsked(impl.Hello{Kind: 1, Random: make([]byte, 16), Versions: versions, Names: names, Params: leastClient().Params})
	}
	return len(s.Shared) == 16 && len(s.Seed) == 16 && hello(s.Versions, s.Names) && hello(s.ServerVersions, s.ServerNames) &&
		bare(s.Client) && bare(s.Server) && paramsOKAsked(s.Client, false) && paramsOKAsked(s.Server, true) && inRange(s.Cc, 1, 2)
}

// linkAsked is what a run is to answer, and the second program behind it.
func linkAsked(s impl.LinkSetup, ops []impl.LinkOp) (impl.LinkOut, *askedLink) {
	if len(ops) > 120 {
		return impl.LinkOut{Code: impl.ErrLong}, nil
	}
	if !linkSetupOK(s) {
		return impl.LinkOut{Code: impl.ErrBad}, nil
	}
	l := newAskedLink(s)
	var out impl.LinkOut
	for _, op := range ops {
		out.Obs = append(out.Obs, l.run(op))
	}
	out.Client, out.Server = l.ends[0].told(), l.ends[1].told()
	return out, l
}
