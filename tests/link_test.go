package tests

import (
	"fmt"
	"reflect"
	"slices"
	"strings"
	"testing"

	"loop.example/g00012/impl"
)

func TestLinkLimits(t *testing.T) {
	for i, pair := range [][2]int{
		{impl.MaxLinkOps, 120}, {impl.MaxAir, 600}, {impl.BodyBytes, 1080}, {impl.Burst, 16}, {impl.MaxCalm, 60},
		{impl.LsStart, 0}, {impl.LsOpen, 1}, {impl.LsClosed, 2},
		{impl.LOpen, 1}, {impl.LWrite, 2}, {impl.LRead, 3}, {impl.LDeliver, 4}, {impl.LSpoil, 5}, {impl.LTick, 6}, {impl.LReset, 7},
		{impl.LStop, 8}, {impl.LClose, 9}, {impl.LRebind, 10}, {impl.LUpdate, 11}, {impl.LCalm, 12}, {impl.LLose, 13},
	} {
		if pair[0] != pair[1] {
			t.Errorf("constant %d is %d, want %d", i, pair[0], pair[1])
		}
	}
}

// plainLink is a setup of which the sizes of all packets can be reckoned by hand.
func plainLink() impl.LinkSetup {
	p := impl.Params{Size: 1500, ConnWindow: 4000, StreamWindow: 2000, TwoWay: 4, OneWay: 4, Ids: 2}
	return impl.LinkSetup{
		Shared: []byte("a shared secret!"), Seed: []byte("0123456789abcdef"),
		Versions: []int{1}, ServerVersions: []int{1}, Names: []string{"a", "b"}, ServerNames: []string{"b"},
		Client: p, Server: p, Cc: impl.CcLoss,
	}
}

// wideLink lets as much be sent as there may be.
func wideLink() impl.LinkSetup {
	s := plainLink()
	for _, p := range []*impl.Params{&s.Client, &s.Server} {
		p.ConnWindow, p.StreamWindow, p.TwoWay, p.OneWay = 16384, 16384, 64, 64
	}
	return s
}

func linkOpen(side int) impl.LinkOp { return impl.LinkOp{Kind: 1, Side: side} }

func linkOpenOneWay(side int) impl.LinkOp { return impl.LinkOp{Kind: 1, Side: side, Flag: true} }

func linkWrite(side, id int, text string) impl.LinkOp {
	return impl.LinkOp{Kind: 2, Side: side, Id: id, Data: []byte(text)}
}

func linkLast(side, id int, text string) impl.LinkOp {
	return impl.LinkOp{Kind: 2, Side: side, Id: id, Data: []byte(text), Flag: true}
}

func linkRead(side, id, n int) impl.LinkOp { return impl.LinkOp{Kind: 3, Side: side, Id: id, N: n} }

func linkDeliver(n int) impl.LinkOp { return impl.LinkOp{Kind: 4, N: n} }

func linkSpoil(n, at, with int) impl.LinkOp { return impl.LinkOp{Kind: 5, N: n, At: at, Id: with} }

func linkTick(n int) impl.LinkOp { return impl.LinkOp{Kind: 6, N: n} }

func linkReset(side, id, n int) impl.LinkOp { return impl.LinkOp{Kind: 7, Side: side, Id: id, N: n} }

func linkStop(side, id, n int) impl.LinkOp { return impl.LinkOp{Kind: 8, Side: side, Id: id, N: n} }

func linkClose(side, n int) impl.LinkOp { return impl.LinkOp{Kind: 9, Side: side, N: n} }

func linkRebind() impl.LinkOp { return impl.LinkOp{Kind: 10} }

func linkUpdate(side int) impl.LinkOp { return impl.LinkOp{Kind: 11, Side: side} }

func linkCalm(n int) impl.LinkOp { return impl.LinkOp{Kind: 12, N: n} }

func linkLose() impl.LinkOp { return impl.LinkOp{Kind: 13} }

// linkEach is the same operation of each number.
func linkEach(op func(n int) impl.LinkOp, nums ...int) []impl.LinkOp {
	var ops []impl.LinkOp
	for _, n := range nums {
		ops = append(ops, op(n))
	}
	return ops
}

// plainOut has no difference between an empty list and nil.
func plainOut(o impl.LinkOut) impl.LinkOut {
	o.Obs = append([]impl.LinkObs(nil), o.Obs...)
	for i := range o.Obs {
		o.Obs[i].Data = append([]byte(nil), o.Obs[i].Data...)
	}
	return o
}

func sameOut(a, b impl.LinkOut) bool { return reflect.DeepEqual(plainOut(a), plainOut(b)) }

func toldLinkOp(op impl.LinkOp) string {
	names := []string{"", "LOpen", "LWrite", "LRead", "LDeliver", "LSpoil", "LTick", "LReset", "LStop", "LClose", "LRebind", "LUpdate", "LCalm", "LLose"}
	name := fmt.Sprint("kind ", op.Kind)
	if inRange(op.Kind, 1, 13) {
		name = names[op.Kind]
	}
	return fmt.Sprintf("%s side %d id %d n %d at %d, %d bytes, %v", name, op.Side, op.Id, op.N, op.At, len(op.Data), op.Flag)
}

// toldLink tells a run up to the first answer that is another one.
func toldLink(s impl.LinkSetup, ops []impl.LinkOp, got, want impl.LinkOut) string {
	var b strings.Builder
	fmt.Fprintf(&b, "code %d, want %d, setup %+v\n", got.Code, want.Code, s)
	for i := range min(len(ops), len(got.Obs), len(want.Obs)) {
		fmt.Fprintf(&b, "%d %s\n", i, toldLinkOp(ops[i]))
		if !sameOut(impl.LinkOut{Obs: got.Obs[i : i+1]}, impl.LinkOut{Obs: want.Obs[i : i+1]}) {
			fmt.Fprintf(&b, "   got  %+v\n   want %+v\n", got.Obs[i], want.Obs[i])
			return b.String()
		}
	}
	fmt.Fprintf(&b, "client\n   got  %+v\n   want %+v\nserver\n   got  %+v\n   want %+v\n", got.Client, want.Client, got.Server, want.Server)
	return b.String()
}

// checkLink holds a run against the second program; both are given back.
func checkLink(t *testing.T, s impl.LinkSetup, ops []impl.LinkOp) (impl.LinkOut, *askedLink) {
	t.Helper()
	got := impl.LinkRun(s, ops)
	want, l := linkAsked(s, ops)
	if !sameOut(got, want) {
		t.Fatalf("LinkRun: %s", toldLink(s, ops, got, want))
	}
	return got, l
}

// linkStep is an operation and all that it answers.
type linkStep struct {
	op   impl.LinkOp
	want impl.LinkObs
}

func opsOf(steps []linkStep) []impl.LinkOp {
	var ops []impl.LinkOp
	for _, step := range steps {
		ops = append(ops, step.op)
	}
	return ops
}

// checkLinkSteps asks each beginning too: no answer hangs on what comes behind it.
func checkLinkSteps(t *testing.T, s impl.LinkSetup, steps []linkStep, client, server impl.LinkEnd) {
	t.Helper()
	ops := opsOf(steps)
	for n := range len(ops) + 1 {
		checkLink(t, s, ops[:n])
	}
	want := impl.LinkOut{Client: client, Server: server}
	for _, step := range steps {
		want.Obs = append(want.Obs, step.want)
	}
	if got := impl.LinkRun(s, ops); !sameOut(got, want) {
		t.Errorf("LinkRun: %s", toldLink(s, ops, got, want))
	}
}

func refusesLink(t *testing.T, s impl.LinkSetup, ops []impl.LinkOp, code int) {
	t.Helper()
	checkLink(t, s, ops)
	if got := impl.LinkRun(s, ops); !sameOut(got, impl.LinkOut{Code: code}) {
		t.Errorf("LinkRun of %d operations with %+v = %+v, want code %d alone", len(ops), s, got, code)
	}
}

func takesLink(t *testing.T, s impl.LinkSetup, ops []impl.LinkOp) impl.LinkOut {
	t.Helper()
	got, _ := checkLink(t, s, ops)
	if got.Code != impl.OK || len(got.Obs) != len(ops) {
		t.Errorf("LinkRun of %d operations with %+v = code %d, %d answers", len(ops), s, got.Code, len(got.Obs))
	}
	return got
}

// codesOf are those of each operation.
func codesOf(o impl.LinkOut) []int {
	var codes []int
	for _, obs := range o.Obs {
		codes = append(codes, obs.Code)
	}
	return codes
}

func wantCodes(t *testing.T, s impl.LinkSetup, ops []impl.LinkOp, codes ...int) impl.LinkOut {
	t.Helper()
	got, _ := checkLink(t, s, ops)
	if !slices.Equal(codesOf(got), codes) {
		t.Errorf("codes %v, want %v, of %v", codesOf(got), codes, ops)
	}
	return got
}

func bothOpen(o impl.LinkOut) bool {
	return o.Client.State == impl.LsOpen && o.Server.State == impl.LsOpen
}

// The client's first packet has 27 bytes of head, a body that is filled up to 1080, and a tag of 8.
func TestP16NothingIsDone(t *testing.T) {
	checkLinkSteps(t, plainLink(), nil,
		impl.LinkEnd{Version: 1, Flight: 1115, Window: 12000, Gone: 1115, Valid: true},
		impl.LinkEnd{Window: 12000},
	)
}

// The server's hello has 76 bytes; its packet 5 of an acknowledgement and 80 of crypto, 120 in all; that of space 1 has 12 of
// crypto, 46 in all. The client acknowledges the first one in a full packet, and the second one with its own 12, in 51; the
// server that one in 39, and tells that it is done in 22, which the client acknowledges in 23.
func meetingSteps() []linkStep {
	return []linkStep{
		{linkDeliver(0), impl.LinkObs{Sent: 2}},
		{linkDeliver(1), impl.LinkObs{Sent: 1}},
		{linkDeliver(2), impl.LinkObs{Sent: 1, State0: 1}},
		{linkDeliver(3), impl.LinkObs{State0: 1}},
		{linkDeliver(4), impl.LinkObs{Sent: 2, State0: 1, State1: 1}},
		{linkDeliver(5), impl.LinkObs{State0: 1, State1: 1}},
		{linkDeliver(6), impl.LinkObs{Sent: 1, State0: 1, State1: 1}},
		{linkDeliver(7), impl.LinkObs{State0: 1, State1: 1}},
	}
}

func TestP17AMeetingByHand(t *testing.T) {
	steps := meetingSteps()
	checkLinkSteps(t, plainLink(), steps[:1],
		impl.LinkEnd{Version: 1, Flight: 1115, Window: 12000, Gone: 1115, Valid: true},
		impl.LinkEnd{Version: 1, Flight: 166, Window: 12000, Came: 1115, Gone: 166},
	)
	checkLinkSteps(t, plainLink(), steps[:3],
		impl.LinkEnd{State: 1, Version: 1, Flight: 51, Window: 13115, Gone: 2281, Valid: true, Name: "b"},
		impl.LinkEnd{Version: 1, Flight: 166, Window: 12000, Came: 1115, Gone: 166},
	)
	checkLinkSteps(t, plainLink(), steps[:5],
		impl.LinkEnd{State: 1, Version: 1, Flight: 51, Window: 13115, Gone: 2281, Valid: true, Name: "b"},
		impl.LinkEnd{State: 1, Version: 1, Flight: 22, Window: 12166, Came: 2281, Gone: 227, Valid: true, Name: "b"},
	)
	checkLinkSteps(t, plainLink(), steps,
		impl.LinkEnd{State: 1, Version: 1, Window: 13166, Gone: 2304, Valid: true, Name: "b"},
		impl.LinkEnd{State: 1, Version: 1, Window: 12188, Came: 2304, Gone: 227, Valid: true, Name: "b", Rtt: impl.Rtt{Latest: 1, Least: 1, Smooth: 1}},
	)
	// A calm brings the same.
	checkLinkSteps(t, plainLink(), []linkStep{{linkCalm(1), impl.LinkObs{Sent: 7, State0: 1, State1: 1}}, {linkCalm(60), impl.LinkObs{State0: 1, State1: 1}}},
		impl.LinkEnd{State: 1, Version: 1, Window: 13166, Gone: 2304, Valid: true, Name: "b"},
		impl.LinkEnd{State: 1, Version: 1, Window: 12188, Came: 2304, Gone: 227, Valid: true, Name: "b", Rtt: impl.Rtt{Latest: 1, Least: 1, Smooth: 1}},
	)
}

// By the model the window is that of the product, which is small: twice the least one.
func TestP17AMeetingByTheModel(t *testing.T) {
	s := plainLink()
	s.Cc = impl.CcModel
	checkLinkSteps(t, s, meetingSteps(),
		impl.LinkEnd{State: 1, Version: 1, Window: 4800, Gone: 2304, Valid: true, Name: "b"},
		impl.LinkEnd{State: 1, Version: 1, Window: 4800, Came: 2304, Gone: 227, Valid: true, Name: "b", Rtt: impl.Rtt{Latest: 1, Least: 1, Smooth: 1}},
	)
}

// A stream's piece of 23 bytes with its end is a frame of 26, a packet of 44; an acknowledgement is one of 23, or of 25 where a
// number is missing. That one stream more may be opened goes in 22, the piece that comes back in 25.
func TestP16AStreamByHand(t *testing.T) {
	open := impl.LinkObs{State0: 1, State1: 1}
	with := func(change func(o *impl.LinkObs)) impl.LinkObs {
		o := open
		change(&o)
		return o
	}
	text := "what is written is read"
	steps := []linkStep{
		{linkCalm(1), with(func(o *impl.LinkObs) { o.Sent = 7 })},
		{linkOpen(0), open},
		{linkLast(0, 0, text), with(func(o *impl.LinkObs) { o.Sent = 1 })},
		{linkTick(5000), with(func(o *impl.LinkObs) { o.Time = 5000 })},
		{linkDeliver(8), with(func(o *impl.LinkObs) { o.Sent, o.Time = 1, 5000 })},
		{linkTick(3000), with(func(o *impl.LinkObs) { o.Time = 8000 })},
		{linkDeliver(9), with(func(o *impl.LinkObs) { o.Time = 8000 })},
		{linkRead(1, 0, 4), with(func(o *impl.LinkObs) { o.Data, o.Time = []byte("what"), 8000 })},
		{linkRead(1, 0, 99), with(func(o *impl.LinkObs) { o.Data, o.End, o.Sent, o.Time = []byte(" is written is read"), true, 1, 8000 })},
		{linkRead(1, 0, 99), with(func(o *impl.LinkObs) { o.End, o.Time = true, 8000 })},
		{linkWrite(1, 0, "back"), with(func(o *impl.LinkObs) { o.Sent, o.Time = 1, 8000 })},
		{linkDeliver(11), with(func(o *impl.LinkObs) { o.Sent, o.Time = 1, 8000 })},
		{linkRead(0, 0, 3), with(func(o *impl.LinkObs) { o.Data, o.Time = []byte("bac"), 8000 })},
	}
	checkLinkSteps(t, plainLink(), steps,
		impl.LinkEnd{State: 1, Version: 1, Window: 13210, Gone: 2373, Valid: true, Name: "b", Rtt: impl.Rtt{Latest: 8000, Least: 8000, Smooth: 8000, Var: 4000}},
		impl.LinkEnd{State: 1, Version: 1, Flight: 47, Window: 12188, Came: 2348, Gone: 297, Valid: true, Name: "b", Rtt: impl.Rtt{Latest: 1, Least: 1, Smooth: 1}},
	)
}

// The first packet is lost: the timer of the space goes off 999000 behind it, and a packet that asks alone is sent, of the same
// size. When it is acknowledged after a round trip of 1000 the first one has been away for longer than 9/8 of that.
func TestP16TheFirstPacketIsLostByHand(t *testing.T) {
	steps := []linkStep{
		{linkTick(998999), impl.LinkObs{Time: 998999}},
		{linkTick(1), impl.LinkObs{Time: 999000, Sent: 1}},
		{linkTick(1000), impl.LinkObs{Time: 1000000}},
		// The server acknowledges it in 39 bytes and one more, as an Initial has the number of bytes of its token.
		{linkDeliver(1), impl.LinkObs{Time: 1000000, Sent: 1}},
		{linkDeliver(2), impl.LinkObs{Time: 1000000, Sent: 1}},
	}
	checkLinkSteps(t, plainLink(), steps,
		impl.LinkEnd{Version: 1, Flight: 1115, Window: 6557, Gone: 3345, Valid: true},
		impl.LinkEnd{Version: 1, Window: 12000, Came: 1115, Gone: 40},
	)
	// By the model a loss changes nothing: 1115 bytes in 1000, of which 23/8 are below twice the least window.
	s := plainLink()
	s.Cc = impl.CcModel
	checkLinkSteps(t, s, steps,
		impl.LinkEnd{Version: 1, Flight: 1115, Window: 4800, Gone: 3345, Valid: true},
		impl.LinkEnd{Version: 1, Window: 12000, Came: 1115, Gone: 40},
	)
}

// Of five packets the third one, number 3, is lost. That number 5 came doesn't tell it, as it is only two above: the timer does,
// 9/8 of the round trip of 900000 behind its sending. Then the window of 17204 is halved.
func TestP16ALossByHand(t *testing.T) {
	s := wideLink()
	open := func(time, sent int) impl.LinkObs { return impl.LinkObs{Time: time, Sent: sent, State0: 1, State1: 1} }
	steps := []linkStep{
		{linkCalm(1), open(0, 7)},
		{linkOpen(0), open(0, 0)},
		{linkWrite(0, 0, strings.Repeat("x", 5000)), open(0, 5)},
		{linkTick(900000), open(900000, 0)},
		{linkDeliver(8), open(900000, 1)},
		{linkDeliver(9), open(900000, 1)},
		{linkDeliver(11), open(900000, 1)},
		{linkDeliver(12), open(900000, 1)},
		{linkDeliver(13), open(900000, 0)},
		{linkDeliver(14), open(900000, 0)},
		{linkDeliver(15), open(900000, 0)},
		{linkDeliver(16), open(900000, 0)},
		{linkTick(112499), open(1012499, 0)},
		{linkTick(1), open(1012500, 1)},
	}
	// The packets have 1078, 1080, 1080, 1080 and 800 bytes: four pieces of 1056, with 4 bytes ahead of the first and 6 ahead of
	// the others, and one of 776. What was lost goes again in 1080. The hello has six bytes more than that of the plain setup.
	checkLinkSteps(t, s, steps,
		impl.LinkEnd{State: 1, Version: 1, Flight: 1080, Window: 8602, Gone: 8502, Valid: true, Name: "b", Rtt: impl.Rtt{Latest: 900000, Least: 900000, Smooth: 900000, Var: 189843}},
		impl.LinkEnd{State: 1, Version: 1, Window: 12194, Came: 6342, Gone: 329, Valid: true, Name: "b", Rtt: impl.Rtt{Latest: 1, Least: 1, Smooth: 1}},
	)
}
