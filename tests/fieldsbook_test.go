package tests

import (
	"fmt"
	"slices"
	"strings"
	"testing"

	"loop.example/g00012/impl"
)

func drawnList(more *numbers) []impl.Field {
	count := more.below(8)
	if more.below(30) == 0 {
		count = 60 + more.below(7)
	}
	var list []impl.Field
	for range count {
		f := drawnField(more)
		switch more.below(200) {
		case 0:
			f.Value = strings.Repeat("v", 900+more.below(125))
		case 1:
			f.Name = strings.Repeat("n", 60+more.below(5))
		}
		list = append(list, f)
	}
	return list
}

func TestEncodeDrawn(t *testing.T) {
	more := numbers(21)
	met, codes := map[string]int{}, map[int]int{}
	for range 40000 {
		e, list := drawnEncoder(&more), drawnList(&more)
		stream := 4 * more.below(7)
		switch more.below(60) {
		case 0:
			stream = near(&more, 0, maxVar)
		case 1:
			e.Known = near(&more, 0, e.Table.Added)
		case 2:
			e.Table.Cap = near(&more, e.Table.Cap, e.Table.Most)
		case 3:
			if len(list) > 0 {
				list[more.below(len(list))].Value = "\r"
			}
		}
		codes[checkEncodeAsked(t, e, stream, list, met)]++
	}
	least := codes[impl.OK]
	for _, what := range []string{"fixed", "there", "added", "added for later", "literal", "goes", "stays: not known", "stays: an open section", "stays: this section"} {
		least = min(least, met[what])
	}
	if least < 500 || min(codes[impl.ErrBad], codes[impl.ErrLong]) < 100 {
		t.Errorf("codes were met so often: %v; and %v", codes, met)
	}
}

// fieldSection is a section on its way.
type fieldSection struct {
	stream, need int
	refers       []int
	list         []impl.Field
	bytes        []byte
	instr        int // how many bytes of instructions were written ahead of it
}

// fieldNet is an encoder and a decoder, and what is written and has not come. What it holds them against it
// knows of the bytes alone.
type fieldNet struct {
	t               *testing.T
	more            numbers
	e               impl.Encoder
	d               impl.Decoder
	instr, acks     []byte // all that was written
	instrAt, acksAt int    // as far as it was read
	instrCame       int    // as far as it came
	acksCame        int
	onWay           []fieldSection // not read, in the order of their making
	open            []fieldSection // not acknowledged
	known           int
	next            int
	met             map[string]int
}

func newFieldNet(t *testing.T, seed numbers, met map[string]int) *fieldNet {
	n := &fieldNet{t: t, more: seed, met: met}
	most := 100 + n.more.below(300)
	if n.more.below(4) == 0 {
		most = n.more.below(4097)
	}
	n.e = impl.Encoder{Table: impl.Table{Most: most}, Blocked: n.more.below(4)}
	n.d = impl.Decoder{Table: impl.Table{Most: most}}
	limit := n.more.below(most + 1)
	if n.more.below(3) > 0 {
		limit = most
	}
	n.e.Table, _ = impl.TableCap(n.e.Table, limit)
	n.instr = prefixAsked(limit, 5, 32)
	return n
}

// refersTo are the numbers of the entries that a section tells.
func refersTo(t *testing.T, b []byte) (int, []int) {
	t.Helper()
	need, at, code := getPrefixAsked(b, 0, 8)
	var list []int
	for at < len(b) && code == impl.OK {
		first, number := b[at], 0
		switch {
		case first >= 128:
			number, at, code = getPrefixAsked(b, at, 6)
		case first >= 96:
			_, at, code = getPrefixAsked(b, at, 5)
			_, at, code = getValueAsked(b, at)
		case first >= 32 && first < 64:
			number, at, code = getPrefixAsked(b, at, 5)
			_, at, code = getValueAsked(b, at+number)
		default:
			t.Fatalf("a line that no encoder makes: %d", first)
		}
		if first >= 128 && first < 192 {
			list = append(list, need-1-number)
		}
	}
	if code != impl.OK {
		t.Fatalf("a section that is none: %x", b)
	}
	return need, list
}

func (n *fieldNet) waiting() []int {
	var streams []int
	for _, s := range n.open {
		if s.need > n.known && !slices.Contains(streams, s.stream) {
			streams = append(streams, s.stream)
		}
	}
	return streams
}

// encode writes a section.
func (n *fieldNet) encode() {
	n.t.Helper()
	list := drawnList(&n.more)
	list = list[:min(len(list), 64)]
	stream := 4 * n.next
	n.next++
	if n.more.below(3) == 0 && len(n.open) > 0 {
		stream = n.open[n.more.below(len(n.open))].stream
	}
	was := n.e.Table
	e, instr, b, code := impl.EncodeSection(n.e, stream, list)
	if code == impl.ErrLong {
		n.met["too long"]++
		return
	}
	if code != impl.OK || !impl.EncoderOK(e) {
		n.t.Fatalf("EncodeSection: code %d, %s", code, toldEncoder(e))
	}
	n.e, n.instr = e, append(n.instr, instr...)
	need, refers := refersTo(n.t, b)
	s := fieldSection{stream: stream, need: need, refers: refers, list: list, bytes: b, instr: len(n.instr)}
	n.onWay = append(n.onWay, s)
	if len(refers) > 0 {
		n.open = append(n.open, s)
		if last := e.Open[len(e.Open)-1]; need != slices.Max(refers)+1 || last != ref(stream, need, slices.Min(refers)) {
			n.t.Fatalf("need %d, %v of a section that refers to %v", need, last, refers)
		}
	} else if need != 0 {
		n.t.Fatalf("need %d without a reference", need)
	}
	n.met["gone"] += oldestOf(e.Table) - oldestOf(was)
	n.met["refers"] += len(refers)
	n.held()
}

// held asks for what the encoder promises at all times.
func (n *fieldNet) held() {
	n.t.Helper()
	if len(n.open) != len(n.e.Open) || n.known != n.e.Known {
		n.t.Fatalf("%d open, %d known; %s", len(n.open), n.known, toldEncoder(n.e))
	}
	for i, s := range n.open {
		if n.e.Open[i] != ref(s.stream, s.need, slices.Min(s.refers)) || slices.Min(s.refers) < oldestOf(n.e.Table) {
			n.t.Fatalf("an open section refers to %v; %s", s.refers, toldEncoder(n.e))
		}
	}
	if waiting := len(n.waiting()); waiting > n.e.Blocked {
		n.t.Fatalf("%d streams wait; %s", waiting, toldEncoder(n.e))
	} else if waiting > 0 && waiting == n.e.Blocked {
		n.met["all wait that may"]++
	}
	var blocked []int
	for _, s := range n.onWay {
		if s.need > n.d.Table.Added && !slices.Contains(blocked, s.stream) {
			blocked = append(blocked, s.stream)
		}
	}
	if len(blocked) > n.e.Blocked {
		n.t.Fatalf("%d streams wait at the decoder, Blocked is %d", len(blocked), n.e.Blocked)
	}
}

// come brings the decoder instructions, so many bytes more.
func (n *fieldNet) come(count int) {
	n.t.Helper()
	n.instrCame = min(n.instrCame+count, len(n.instr))
	d, used, code := impl.ReadInstr(n.d, n.instr[n.instrAt:n.instrCame])
	if code != impl.OK || d.Told != n.d.Told {
		n.t.Fatalf("ReadInstr: code %d, %s", code, toldDecoder(d))
	}
	n.d, n.instrAt = d, n.instrAt+used
	if n.instrAt < n.instrCame {
		n.met["not whole"]++
	}
}

// read has the decoder try all sections that have come to it, and tell of those that it could read.
func (n *fieldNet) read(may func(s fieldSection) bool) {
	n.t.Helper()
	var left []fieldSection
	waits := map[int]int{}
	for _, s := range n.onWay {
		list, need, code := impl.DecodeSection(n.d, s.bytes)
		all := n.instrAt >= s.instr
		if code == impl.OK && (!slices.Equal(list, s.list) || need != s.need) {
			n.t.Fatalf("%s was decoded as %s", toldList(s.list), toldList(list))
		}
		if code != impl.OK && (code != impl.ErrBlocked || all || s.need <= n.d.Table.Added) {
			n.t.Fatalf("DecodeSection: code %d of need %d; all instructions: %v, %s", code, s.need, all, toldDecoder(n.d))
		}
		n.met[fmt.Sprintf("code %d, all %v", code, all)]++
		if code != impl.OK || waits[s.stream] > 0 || !may(s) {
			waits[s.stream]++
			left = append(left, s)
			continue
		}
		if need > 0 {
			n.acks = append(n.acks, wasRead(s.stream)...)
			n.d.Told = max(n.d.Told, need)
		}
	}
	n.onWay = left
}

func (n *fieldNet) giveUp(stream int) {
	n.acks = append(n.acks, gaveUp(stream)...)
	n.onWay = slices.DeleteFunc(n.onWay, func(s fieldSection) bool { return s.stream == stream })
}

func (n *fieldNet) tell() {
	if more := n.d.Table.Added - n.d.Told; more > 0 {
		n.acks = append(n.acks, haveCome(more)...)
		n.d.Told = n.d.Table.Added
	}
}

// hear brings the encoder what the decoder has told, so many bytes more.
func (n *fieldNet) hear(count int) {
	n.t.Helper()
	n.acksCame = min(n.acksCame+count, len(n.acks))
	for n.acksAt < n.acksCame {
		first := n.acks[n.acksAt]
		bits := 6
		if first >= 128 {
			bits = 7
		}
		number, next, code := getPrefixAsked(n.acks[:n.acksCame], n.acksAt, bits)
		if code != impl.OK {
			break
		}
		e, used, code := impl.ReadAcks(n.e, n.acks[n.acksAt:next])
		if code != impl.OK || used != next-n.acksAt {
			n.t.Fatalf("ReadAcks(%x): %d bytes, code %d, of %s", n.acks[n.acksAt:next], used, code, toldEncoder(n.e))
		}
		n.e, n.acksAt = e, next
		n.heard(first, number)
	}
	n.held()
}

func (n *fieldNet) heard(first byte, number int) {
	ofStream := func(s fieldSection) bool { return s.stream == number }
	switch {
	case first >= 128:
		at := slices.IndexFunc(n.open, ofStream)
		n.known = max(n.known, n.open[at].need)
		n.open = slices.Delete(n.open, at, at+1)
	case first >= 64:
		n.open = slices.DeleteFunc(n.open, ofStream)
		n.met["given up"]++
	default:
		n.known += number
	}
}

func (n *fieldNet) step() {
	n.t.Helper()
	switch n.more.below(12) {
	case 0, 1, 2, 3:
		n.encode()
	case 4, 5, 6:
		n.come(1 + n.more.below(60))
	case 7:
		skip := n.more.below(4)
		n.read(func(s fieldSection) bool { return s.stream/4%4 != skip })
	case 8, 9:
		n.hear(1 + n.more.below(10))
	case 10:
		n.tell()
	case 11:
		// One that is over at the decoder has no sections at the encoder from then on, so it is the last of its stream.
		if len(n.onWay) > 0 && n.more.below(4) == 0 && n.acksAt == len(n.acks) {
			n.giveUp(n.onWay[n.more.below(len(n.onWay))].stream)
			n.hear(100)
		}
	}
	n.read(func(fieldSection) bool { return false })
}

// end has all come.
func (n *fieldNet) end() {
	n.t.Helper()
	n.come(len(n.instr))
	if n.instrAt != len(n.instr) || !sameTable(n.e.Table, n.d.Table) {
		n.t.Fatalf("the decoder has %s, the encoder %s", toldDecoder(n.d), toldEncoder(n.e))
	}
	n.read(func(fieldSection) bool { return true })
	n.tell()
	n.hear(len(n.acks))
	if len(n.onWay)+len(n.e.Open) > 0 || n.e.Known != n.e.Table.Added {
		n.t.Fatalf("%d sections are left; %s", len(n.onWay), toldEncoder(n.e))
	}
}

func runFieldNets(t *testing.T, count, steps int) map[string]int {
	t.Helper()
	met := map[string]int{}
	for seed := range count {
		n := newFieldNet(t, numbers(1000+seed), met)
		for range steps {
			n.step()
		}
		n.end()
	}
	return met
}

func TestP19Sections(t *testing.T) {
	met := runFieldNets(t, 400, 150)
	for _, what := range []string{"code 0, all true", "code 0, all false", "code 15, all false", "refers", "not whole"} {
		if met[what] < 1000 {
			t.Errorf("%q was met %d times: %v", what, met[what], met)
		}
	}
}

func TestP20Encoders(t *testing.T) {
	met := runFieldNets(t, 400, 150)
	for what, least := range map[string]int{"gone": 1000, "all wait that may": 1000, "given up": 100} {
		if met[what] < least {
			t.Errorf("%q was met %d times: %v", what, met[what], met)
		}
	}
}

// With every beginning of the instructions it is the same fields or ErrBlocked.
func TestP19FewerInstructions(t *testing.T) {
	more := numbers(22)
	for range 60 {
		e := impl.Encoder{Table: tableOf(300, 300, 0), Blocked: 3}
		var instr []byte
		var all []fieldSection
		for i := range 4 {
			list := drawnList(&more)
			list = list[:min(len(list), 20)]
			behind, more, b, code := impl.EncodeSection(e, 4*i, list)
			if code != impl.OK {
				t.Fatalf("code %d", code)
			}
			e, instr = behind, append(instr, more...)
			all = append(all, fieldSection{list: list, bytes: b, instr: len(instr)})
		}
		for n := range len(instr) + 1 {
			d, _, _ := impl.ReadInstr(impl.Decoder{Table: tableOf(300, 300, 0)}, instr[:n])
			for _, s := range all {
				list, _, code := impl.DecodeSection(d, s.bytes)
				if code == impl.OK && !slices.Equal(list, s.list) || code != impl.OK && code != impl.ErrBlocked || code == impl.ErrBlocked && n >= s.instr {
					t.Fatalf("%d of %d bytes: %s, code %d, want %s", n, s.instr, toldList(list), code, toldList(s.list))
				}
			}
		}
		d, used, _ := impl.ReadInstr(impl.Decoder{Table: tableOf(300, 300, 0)}, instr)
		if used != len(instr) || !sameTable(d.Table, e.Table) {
			t.Fatalf("the decoder has %s, the encoder %s", toldDecoder(d), toldEncoder(e))
		}
	}
}
