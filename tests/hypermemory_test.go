package tests

import (
	"bytes"
	"fmt"
	"math"
	"slices"
	"strings"
	"testing"

	"loop.example/g00012/impl"
)

// fencedHyper is a frame of which each list is a part of a longer one.
type fencedHyper struct {
	f    impl.HFrame
	data fenced[byte]
	set  fenced[impl.Setting]
}

func fenceHyper(f impl.HFrame) fencedHyper {
	h := fencedHyper{f, amid(f.Data, 0xee), amid(f.Set, impl.Setting{Id: 1, Value: 77})}
	h.f.Data, h.f.Set = h.data.list, h.set.list
	return h
}

func (h fencedHyper) check(t *testing.T, call string) {
	t.Helper()
	h.data.check(t, call)
	h.set.check(t, call)
}

func TestP1HyperBytesMemory(t *testing.T) {
	frames := append(wrongHypers(), edgeHypers()...)
	for _, c := range plainHypers() {
		frames = append(frames, c.f)
	}
	for _, f := range frames {
		h := fenceHyper(f)
		mustEnd(t, "HyperOK", func() { impl.HyperOK(h.f) })
		h.check(t, "HyperOK")
		checkFresh(t, "HyperBytes", func() [][]byte {
			b, _ := impl.HyperBytes(h.f)
			return [][]byte{b}
		}, func() {
			t.Helper()
			h.check(t, "HyperBytes")
		})
		checkHyperAsked(t, h.f)
	}
}

func TestP1ReadHyperMemory(t *testing.T) {
	var rows [][]byte
	for _, c := range plainHypers() {
		rows = append(rows, c.b)
	}
	rows = append(rows, nil, []byte{4, 4, 1, 1, 1, 1}, []byte{7, 2, 1, 1}, []byte{4, 3, 1, 2, 3}, []byte{0, 9}, zeroes(16400), zeroes(65537),
		hyperBytesAsked(impl.HFrame{Kind: 4, Set: manySettings(16, 5)}), hyperBytesAsked(impl.HFrame{Kind: 15, A: 9, Data: rowOf(900, 3, 251)}), join([]byte{4, 34}, rowOf(34, 1, 64)))
	for _, row := range rows {
		b := amid(join(row, []byte{9, 9}), 0xee)
		mustEnd(t, "ReadHyper", func() { impl.ReadHyper(b.list, 0) })
		want := hyperAt(b.list)
		b.check(t, "ReadHyper")
		// Each list of the answer, with all the room behind it, is the answer's own.
		got := hyperAt(b.list)
		spoilAll(got.Data, 0xdd)
		if !slices.Equal(got.Set, want.Set) {
			t.Errorf("Set changed with Data: %s", toldHyper(got))
		}
		b.check(t, "ReadHyper")
		got = hyperAt(b.list)
		spoilAll(got.Set, impl.Setting{Id: -7, Value: -7})
		if !bytes.Equal(got.Data, want.Data) {
			t.Errorf("Data changed with Set: %s", toldHyper(got))
		}
		b.check(t, "ReadHyper")
		if later := hyperAt(b.list); !sameHyper(later, want) {
			t.Errorf("ReadHyper: first %s, later %s", toldHyper(want), toldHyper(later))
		}
		// What was read stays when the bytes change.
		own := slices.Clone(b.list)
		got = hyperAt(own)
		spoilAll(own, 0x55)
		if !sameHyper(got, want) {
			t.Errorf("a frame changed with the bytes it was read of: %s", toldHyper(got))
		}
	}
}

func hyperAt(b []byte) impl.HFrame {
	f, _, _ := impl.ReadHyper(b, 0)
	return f
}

// builtRequest stands in memory of its own.
func builtRequest(r impl.Request) impl.Request {
	return impl.Request{Method: built(r.Method), Scheme: built(r.Scheme), Authority: built(r.Authority), Path: built(r.Path), Fields: builtFields(r.Fields)}
}

func memoryRequests() []impl.Request {
	wrong := plainRequest()
	wrong.Fields = append(wrong.Fields, aField("upgrade", "x"))
	long := plainRequest()
	long.Fields = fieldsOf(61)
	pathless := plainRequest()
	pathless.Path = ""
	return []impl.Request{plainRequest(), leastRequest(), mostRequest(), wrong, long, pathless, {}, {Method: "GET", Scheme: "https", Path: "/", Fields: pairsOf("a", "b", "a", "b")}}
}

// checkTextsOwn sees that no text of an answer lies in memory of what was handed in.
func checkTextsOwn(t *testing.T, call string, given, told []string) {
	t.Helper()
	for _, text := range told {
		if slices.ContainsFunc(given, func(g string) bool { return share(g, text) }) {
			t.Errorf("%s: the text %.30q shares memory with an argument", call, text)
		}
	}
}

func requestTexts(r impl.Request) []string {
	return append([]string{r.Method, r.Scheme, r.Authority, r.Path}, textsOf(r.Fields)...)
}

func TestP1MessageFieldsMemory(t *testing.T) {
	for _, r := range memoryRequests() {
		r := builtRequest(r)
		args := fenceFields(nil, r.Fields, nil, nil)
		r.Fields = args.list.list
		args.checkFresh(t, "RequestFields", func() fieldAnswer {
			list, code := impl.RequestFields(r)
			checkTextsOwn(t, "RequestFields", requestTexts(r), textsOf(list))
			return fieldAnswer{fields: [][]impl.Field{list}, rest: fmt.Sprint(code)}
		})
		for _, status := range []int{200, 99, 599, math.MinInt} {
			args.checkFresh(t, "ResponseFields", func() fieldAnswer {
				list, code := impl.ResponseFields(impl.Response{Status: status, Fields: r.Fields})
				return fieldAnswer{fields: [][]impl.Field{list}, rest: fmt.Sprint(code)}
			})
		}
		args.checkFresh(t, "LengthOf", func() fieldAnswer {
			n, code := impl.LengthOf(r.Fields)
			return fieldAnswer{rest: fmt.Sprint(n, code)}
		})
	}
}

func TestP1MessagesOfMemory(t *testing.T) {
	var lists [][]impl.Field
	for _, r := range memoryRequests() {
		lists = append(lists, append(leadsOf(r), r.Fields...), append(pairsOf(":status", "200"), r.Fields...))
	}
	lists = append(lists, nil, make([]impl.Field, 64), make([]impl.Field, 65), pairsOf(":status", "200", ":status", "200"))
	for _, list := range lists {
		args := fenceFields(nil, builtFields(list), nil, nil)
		args.checkFresh(t, "RequestOf", func() fieldAnswer {
			r, code := impl.RequestOf(args.list.list)
			checkTextsOwn(t, "RequestOf", textsOf(args.list.list), requestTexts(r))
			return fieldAnswer{fields: [][]impl.Field{r.Fields}, rest: fmt.Sprintf("%q %q %q %q %d", r.Method, r.Scheme, r.Authority, r.Path, code)}
		})
		args.checkFresh(t, "ResponseOf", func() fieldAnswer {
			r, code := impl.ResponseOf(args.list.list)
			return fieldAnswer{fields: [][]impl.Field{r.Fields}, rest: fmt.Sprint(r.Status, code)}
		})
		args.checkFresh(t, "LengthOf", func() fieldAnswer {
			n, code := impl.LengthOf(args.list.list)
			return fieldAnswer{rest: fmt.Sprint(n, code)}
		})
	}
}

// What stands behind the end of a list is not of it.
func TestP1NoFieldBehindTheEndIsRead(t *testing.T) {
	whole := append(leadsOf(leastRequest()), aField("a", "1"), aField("upgrade", "x"), aLength("5"))
	r := leastRequest()
	r.Fields = pairsOf("a", "1")
	refusesRequestOf(t, whole[:2], impl.ErrMessage)
	checkRequestOf(t, whole[:3], leastRequest(), impl.OK)
	checkRequestOf(t, whole[:4], r, impl.OK)
	refusesRequestOf(t, whole[:5], impl.ErrMessage)
	checkLength(t, whole[:5], -1, impl.OK)
	checkLength(t, whole, 5, impl.OK)
	r.Fields = whole[3:4]
	checkRequestFields(t, r, pairsOf(":method", "G", ":scheme", "h", ":path", "/", "a", "1"), impl.OK)
	answers := append(pairsOf(":status", "200"), whole[3:]...)
	checkResponseOf(t, answers[:1], impl.Response{Status: 200}, impl.OK)
	checkResponseOf(t, answers[:2], impl.Response{Status: 200, Fields: pairsOf("a", "1")}, impl.OK)
	refusesResponseOf(t, answers[:3], impl.ErrMessage)
	waiting := []impl.Waiting{waits(4, 3, 0), waits(8, 2, 0), waits(0, 0, 0)}
	checkNext(t, waiting[:0], -1)
	checkNext(t, waiting[:1], 0)
	checkNext(t, waiting[:2], 1)
}

func TestP1NextStreamMemory(t *testing.T) {
	more := numbers(30)
	for n := range 40 {
		var list []impl.Waiting
		for range n {
			list = append(list, drawnWaiting(&more, 6))
		}
		arg := amid(list, waits(-1, -1, -1))
		want := impl.NextStream(list)
		mustEnd(t, "NextStream", func() { checkNext(t, arg.list, want) })
		arg.check(t, "NextStream")
	}
	long := amid(make([]impl.Waiting, 4097), waits(-1, -1, -1))
	checkNext(t, long.list, -1)
	long.check(t, "NextStream")
}

// Texts of many bytes are refused, whatever they hold.
func TestP1LongTexts(t *testing.T) {
	long := strings.Repeat("a", 1<<20)
	mustEnd(t, "a call", func() {
		checkRequest(t, impl.Request{Method: long, Scheme: long, Authority: long, Path: "/" + long, Fields: pairsOf(long, long)}, false)
		checkResponse(t, impl.Response{Status: 200, Fields: pairsOf(long, "")}, false)
		checkResponse(t, impl.Response{Status: 200, Fields: pairsOf("a", long)}, false)
		refusesResponseOf(t, pairsOf(":status", strings.Repeat("2", 1<<20)), impl.ErrMessage)
		refusesRequestOf(t, pairsOf(":"+long, long), impl.ErrMessage)
		checkLength(t, pairsOf("content-length", strings.Repeat("1", 1<<20)), 0, impl.ErrMessage)
		checkPriority(t, strings.Repeat("u=1,", 1<<18), 3, false)
	})
}

func TestP1HyperKeepsNothing(t *testing.T) {
	checkKeepsNothing(t, func() string {
		var out strings.Builder
		for _, c := range plainHypers() {
			b, code := impl.HyperBytes(c.f)
			f, next, readCode := impl.ReadHyper(c.b, 0)
			fmt.Fprintln(&out, impl.HyperOK(c.f), b, code, f, next, readCode)
		}
		for _, r := range memoryRequests() {
			list, code := impl.RequestFields(r)
			back, backCode := impl.RequestOf(list)
			fmt.Fprintln(&out, list, code, back, backCode)
			list, code = impl.ResponseFields(impl.Response{Status: 404, Fields: r.Fields})
			response, backCode := impl.ResponseOf(list)
			n, lengthCode := impl.LengthOf(r.Fields)
			fmt.Fprintln(&out, list, code, response, backCode, n, lengthCode)
		}
		for state := range 5 {
			next, code := impl.Arrange(state, 1)
			urgency, turns := impl.ReadPriority(strings.Repeat("i,u=1,", state) + "u=4")
			fmt.Fprintln(&out, next, code, urgency, turns, impl.PriorityText(state, turns), impl.NextStream([]impl.Waiting{waits(4, 3, 0), waits(state, state, 0)}))
		}
		return out.String()
	})
}
