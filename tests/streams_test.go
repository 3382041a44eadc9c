package tests

import (
	"bytes"
	"fmt"
	"slices"
	"testing"

	"loop.example/g00012/impl"
)

// piece is a part of what was written, from one place to another.
type piece struct {
	from, to int
	fin      bool
}

func (p piece) op(content []byte) impl.RecvOp {
	return impl.RecvOp{Kind: impl.RData, Off: p.from, Data: content[p.from:p.to], Fin: p.fin}
}

// allPieces are all that a content of so many bytes can be cut into, those without bytes too; Fin stands at the end alone, or does not.
func allPieces(count int) []piece {
	var list []piece
	for from := range count + 1 {
		for to := from; to <= count; to++ {
			list = append(list, piece{from, to, false})
		}
		list = append(list, piece{from, count, true})
	}
	return list
}

// readBook holds what was read against what was written.
type readBook struct {
	content []byte
	came    map[int]bool
	fin     bool
	got     []byte
}

func newReadBook(content []byte) *readBook {
	return &readBook{content: content, came: map[int]bool{}}
}

func (b *readBook) take(p piece) {
	for at := p.from; at < p.to; at++ {
		b.came[at] = true
	}
	b.fin = b.fin || p.fin
}

// there is how many bytes have come one behind the other.
func (b *readBook) there() int {
	n := 0
	for b.came[n] {
		n++
	}
	return n
}

func (b *readBook) read(t *testing.T, n int, obs impl.RecvObs) {
	t.Helper()
	b.got = append(b.got, obs.Data...)
	if !bytes.HasPrefix(b.content, b.got) {
		t.Fatalf("%s was read of %s", shortBytes(b.got), shortBytes(b.content))
	}
	if len(obs.Data) > n || len(obs.Data) < n && len(b.got) != b.there() {
		t.Fatalf("a read of %d gave %d bytes, in all %d of %d that are there", n, len(obs.Data), len(b.got), b.there())
	}
	if whole := b.fin && len(b.got) == len(b.content); obs.Code != impl.OK || obs.End != whole || (obs.State == impl.RsRead) != whole {
		t.Fatalf("%d of %d bytes were read, Fin came: %v, %s", len(b.got), len(b.content), b.fin, toldRecvObs(obs))
	}
}

// checkPieces gives the pieces one by one, and reads behind each.
func checkPieces(t *testing.T, content []byte, list []piece, size int) {
	t.Helper()
	var ops []impl.RecvOp
	for _, p := range list {
		ops = append(ops, p.op(content), readOp(size))
	}
	got, _ := impl.RecvRun(20, append(ops, readOp(20)))
	book := newReadBook(content)
	for i, p := range list {
		if got[2*i].Code != impl.OK {
			t.Fatalf("%+v was refused: %s", p, toldRecvObs(got[2*i]))
		}
		book.take(p)
		book.read(t, size, got[2*i+1])
	}
	book.read(t, 20, got[len(got)-1])
}

func TestP7EveryThreePieces(t *testing.T) {
	content := []byte("abcd")
	all := allPieces(len(content))
	for _, a := range all {
		for _, b := range all {
			for _, c := range all {
				for _, size := range []int{1, 9} {
					checkPieces(t, content, []piece{a, b, c}, size)
				}
			}
		}
	}
}

// cut gives pieces that have every byte of a content in them, and Fin, each of at most 40 bytes.
func cut(more *numbers, count int) []piece {
	var list []piece
	for at := 0; at < count; {
		to := min(at+1+more.below(40), count)
		list = append(list, piece{at, to, to == count && more.below(2) == 0})
		at = to
	}
	return append(list, piece{count, count, true})
}

func shuffle[T any](more *numbers, list []T) {
	for i := len(list) - 1; i > 0; i-- {
		j := more.below(i + 1)
		list[i], list[j] = list[j], list[i]
	}
}

func TestP7CutInAnyWay(t *testing.T) {
	more := numbers(74)
	for range 400 {
		content := more.bytes(more.below(1 + more.below(1200)))
		list := cut(&more, len(content))
		// Some come twice, cut otherwise, or a part of them alone.
		for range more.below(30) {
			from := more.below(len(content) + 1)
			list = append(list, piece{from, from + more.below(min(40, len(content)-from)+1), false})
		}
		list = append(list, list[:more.below(len(list))]...)
		shuffle(&more, list)
		var ops []impl.RecvOp
		for _, p := range list {
			ops = append(ops, p.op(content), readOp(1+more.below(1+more.below(200))))
		}
		ops = append(ops, readOp(len(content)+1))
		got, code := impl.RecvRun(max(1, len(content))+more.below(100), ops)
		if code != impl.OK {
			t.Fatalf("%d operations: code %d", len(ops), code)
		}
		book := newReadBook(content)
		for i, p := range list {
			book.take(p)
			book.read(t, ops[2*i+1].N, got[2*i+1])
		}
		book.read(t, len(content)+1, got[len(got)-1])
		if len(book.got) != len(content) || got[len(got)-1].State != impl.RsRead {
			t.Fatalf("with every piece there, %d of %d bytes were read", len(book.got), len(content))
		}
	}
}

// carrier has both parts of one stream and a network between them that loses, doubles and mixes up pieces.
type carrier struct {
	t             *testing.T
	more          *numbers
	window        int
	content, got  []byte
	sends         []impl.SendOp
	recvs         []impl.RecvOp
	air           []impl.SendObs
	told, credit  int
	sendDone, end bool
}

func (c *carrier) send(op impl.SendOp) impl.SendObs {
	c.t.Helper()
	c.sends = append(c.sends, op)
	list, code := impl.SendRun(c.sends)
	if code != impl.OK {
		c.t.Fatalf("SendRun: code %d", code)
	}
	last := list[len(list)-1]
	if last.Code != impl.OK || last.Off+len(last.Data) > c.credit && len(last.Data) > 0 {
		c.t.Fatalf("%+v: %s with a credit of %d", op, toldSendObs(last), c.credit)
	}
	c.sendDone = last.State == impl.SsDone
	return last
}

func (c *carrier) recv(op impl.RecvOp) impl.RecvObs {
	c.t.Helper()
	c.recvs = append(c.recvs, op)
	list, code := impl.RecvRun(c.window, c.recvs)
	if code != impl.OK {
		c.t.Fatalf("RecvRun: code %d", code)
	}
	last := list[len(list)-1]
	if last.Code != impl.OK || last.Told < c.told || last.Told > len(c.got)+len(last.Data)+c.window {
		c.t.Fatalf("%+v: %s, told ahead %d", op, toldRecvObs(last), c.told)
	}
	c.told = last.Told
	return last
}

// arrive takes one piece out of the air: it is lost, or comes, once or twice.
func (c *carrier) arrive(loss int) {
	c.t.Helper()
	i := c.more.below(len(c.air))
	p := c.air[i]
	if c.more.below(100) < loss {
		c.air = slices.Delete(c.air, i, i+1)
		c.send(impl.SendOp{Kind: impl.SLost, Off: p.Off, N: len(p.Data), Fin: p.Fin})
		return
	}
	c.recv(impl.RecvOp{Kind: impl.RData, Off: p.Off, Data: p.Data, Fin: p.Fin})
	if c.more.below(5) == 0 {
		return
	}
	c.air = slices.Delete(c.air, i, i+1)
	c.send(impl.SendOp{Kind: impl.SAcked, Off: p.Off, N: len(p.Data), Fin: p.Fin})
}

func (c *carrier) readSome() {
	c.t.Helper()
	obs := c.recv(readOp(1 + c.more.below(2*c.window)))
	c.got = append(c.got, obs.Data...)
	if !bytes.HasPrefix(c.content, c.got) {
		c.t.Fatalf("%s was read of %s", shortBytes(c.got), shortBytes(c.content))
	}
	c.end = obs.End
	if c.told > c.credit {
		c.credit = c.told
		c.send(creditOp(c.told))
	}
}

func (c *carrier) step(loss int) {
	c.t.Helper()
	switch c.more.below(5) {
	case 0, 1:
		if p := c.send(pullOp(1 + c.more.below(c.window))); p.Some {
			c.air = append(c.air, p)
		}
	case 2, 3:
		if len(c.air) > 0 {
			c.arrive(loss)
		}
	default:
		c.readSome()
	}
}

func TestP7AndP8FromEndToEnd(t *testing.T) {
	more := numbers(75)
	over := 0
	for range 120 {
		c := carrier{t: t, more: &more, window: 1 + more.below(200)}
		c.content = more.bytes(more.below(8 * c.window))
		c.told, c.credit = c.window, c.window
		c.send(impl.SendOp{Kind: impl.SWrite, Data: c.content})
		c.send(finishOp())
		c.send(creditOp(c.window))
		loss := more.below(40)
		for len(c.sends) < 398 && len(c.recvs) < 398 && !(c.sendDone && c.end) {
			c.step(loss)
		}
		if c.sendDone && c.end {
			over++
			if !bytes.Equal(c.got, c.content) {
				t.Fatalf("the end was told behind %d of %d bytes", len(c.got), len(c.content))
			}
		}
	}
	if over < 100 {
		t.Errorf("%d of 120 streams came to their end", over)
	}
}

// A long stream goes round in the room of its window many times.
func TestP7LongStreams(t *testing.T) {
	for _, window := range []int{1, 2, 3, 7, 64, 1000, 1500, 16384} {
		content := rowOf(window*150, 11, 253)
		var ops []impl.RecvOp
		at := 0
		for len(ops) < 398 && at < len(content) {
			size := min(window, 1500, len(content)-at)
			if len(ops)%3 == 1 {
				size = (size + 1) / 2
			}
			ops = append(ops, piece{at, at + size, false}.op(content), readOp(size))
			at += size
		}
		ops = append(ops, finOp(at, ""), readOp(1))
		got, _ := impl.RecvRun(window, ops)
		var read []byte
		for i, obs := range got {
			if obs.Code != impl.OK {
				t.Fatalf("window %d, operation %d: %s", window, i, toldRecvObs(obs))
			}
			read = append(read, obs.Data...)
		}
		if !bytes.Equal(read, content[:at]) || !got[len(got)-1].End {
			t.Errorf("window %d: %d bytes were read of %d", window, len(read), at)
		}
	}
}

// fencedOps is a run within a longer list, each of its Data within a longer one.
type fencedOps struct {
	list, whole, before []impl.SendOp
	data                []fenced[byte]
}

func fenceOps(ops []impl.SendOp) fencedOps {
	var f fencedOps
	mark := impl.SendOp{Kind: 4, Off: 5, N: 6}
	f.whole = append(f.whole, mark)
	for _, op := range ops {
		data := amid(op.Data, 99)
		op.Data = data.list
		f.data = append(f.data, data)
		f.whole = append(f.whole, op)
	}
	f.whole = append(f.whole, mark, mark)
	f.before = slices.Clone(f.whole)
	f.list = f.whole[1 : 1+len(ops)]
	return f
}

func (f fencedOps) check(t *testing.T, call string) {
	t.Helper()
	for i, op := range f.whole {
		was := f.before[i]
		same := op.Kind == was.Kind && op.Off == was.Off && op.N == was.N && op.Fin == was.Fin && len(op.Data) == len(was.Data) && cap(op.Data) == cap(was.Data)
		if !same || len(op.Data) > 0 && &op.Data[0] != &was.Data[0] {
			t.Errorf("%s wrote into its operations or behind their end", call)
		}
	}
	for _, data := range f.data {
		data.check(t, call)
	}
}

func sendLists(ops []impl.SendOp) [][]byte {
	var lists [][]byte
	got, _ := impl.SendRun(ops)
	for _, obs := range got {
		lists = append(lists, obs.Data)
	}
	return lists
}

func recvLists(window int, ops []impl.RecvOp) [][]byte {
	var lists [][]byte
	got, _ := impl.RecvRun(window, ops)
	for _, obs := range got {
		lists = append(lists, obs.Data)
	}
	return lists
}

// asSends lets one kind of run stand for both in what is laid about its memory.
func asSends(ops []impl.RecvOp) []impl.SendOp {
	var list []impl.SendOp
	for _, op := range ops {
		list = append(list, impl.SendOp(op))
	}
	return list
}

func TestP1SendMemory(t *testing.T) {
	runs := append(sendStates(), slices.Concat(tenAndFin(), []impl.SendOp{lostFinOp(2, 8), pullOp(3), pullOp(9), lostOp(0, 10), pullOp(1), pullOp(2), ackedOp(3, 1), pullOp(4), ackedFinOp(0, 9), {Kind: 99, Data: []byte("zz")}, writeOp("abc"), giveUpOp()}))
	runs = append(runs, []impl.SendOp{writeOp("ab"), creditOp(100), pullOp(1), writeOp("cd"), pullOp(2), writeOp("efgh"), pullOp(9), lostOp(0, 8), pullOp(8), lostOp(0, 8), pullOp(8)})
	for _, run := range runs {
		f := fenceOps(run)
		unchanged := func() { f.check(t, "SendRun") }
		checkFresh(t, "SendRun", func() [][]byte { return sendLists(f.list) }, unchanged)
		got, _ := impl.SendRun(f.list)
		clear(got[:cap(got)])
		unchanged()
		checkSendAsked(t, f.list)
	}
}

func TestP1RecvMemory(t *testing.T) {
	runs := append(recvStates(), []impl.RecvOp{
		dataOp(3, "def"), readOp(9), dataOp(0, "abcXX"), readOp(2), readOp(1), dataOp(6, "ghij"), readOp(5), dataOp(10, "klm"), readOp(9), {Kind: 99, Data: []byte("zz")}, {Kind: 3, N: 1, Data: []byte("yy")}, finOp(12, "XYn"), readOp(1), readOp(1), resetOp(15),
	})
	for _, run := range runs {
		f := fenceOps(asSends(run))
		// The list of operations is one of another type, whose Data are those of f.
		var whole []impl.RecvOp
		for _, op := range f.whole {
			whole = append(whole, impl.RecvOp(op))
		}
		list := whole[1 : 1+len(f.list)]
		unchanged := func() {
			t.Helper()
			f.check(t, "RecvRun")
			if !slices.EqualFunc(asSends(whole), f.whole, sameOp) {
				t.Errorf("RecvRun wrote into its operations or behind their end")
			}
		}
		checkFresh(t, "RecvRun", func() [][]byte { return recvLists(10, list) }, unchanged)
		got, _ := impl.RecvRun(10, list)
		clear(got[:cap(got)])
		unchanged()
		checkRecvAsked(t, 10, list)
	}
}

func sameOp(a, b impl.SendOp) bool {
	return a.Kind == b.Kind && a.Off == b.Off && a.N == b.N && a.Fin == b.Fin && bytes.Equal(a.Data, b.Data)
}

// Nothing is kept from call to call: a run answers the same behind any other.
func TestP1StreamsKeepNothing(t *testing.T) {
	ask := func() string {
		var lines []string
		for _, ops := range sendStates() {
			got, code := impl.SendRun(append(slices.Clone(ops), lostOp(0, 1), pullOp(9)))
			lines = append(lines, fmt.Sprint(got, code))
		}
		for _, ops := range recvStates() {
			got, code := impl.RecvRun(10, append(slices.Clone(ops), readOp(9)))
			lines = append(lines, fmt.Sprint(got, code))
		}
		return fmt.Sprint(lines)
	}
	if first, again := ask(), ask(); first != again {
		t.Errorf("first %s, then %s", first, again)
	}
}

// What stands behind the end of a list is not of it.
func TestP1NoOperationBehindTheEndIsRun(t *testing.T) {
	ops := make([]impl.RecvOp, 401)
	for i := range ops {
		ops[i] = readOp(1)
	}
	checkRecvAsked(t, 10, ops[:400])
	data := []byte("abcdef")
	checkRecvSteps(t, 10, []recvStep{{impl.RecvOp{Kind: 1, Data: data[:2]}, 0, 0, 10, "", false}, {readOp(9), 0, 0, 10, "ab", false}})
	checkSendSteps(t, []impl.SendOp{creditOp(9)}, []sendStep{{impl.SendOp{Kind: 1, Data: data[:2]}, plainObs(0, 0)}, {pullOp(9), pieceObs(1, 0, "ab")}})
}
