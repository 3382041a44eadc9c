package tests

import (
	"fmt"
	"math"
	"slices"
	"strings"
	"testing"
	"unsafe"

	"loop.example/g00012/impl"
)

// fieldAnswer is what a call of the chapter answers: its lists, and all of it told.
type fieldAnswer struct {
	fields [][]impl.Field
	refs   [][]impl.Ref
	bytes  [][]byte
	rest   string
}

func (a fieldAnswer) told() string {
	return fmt.Sprintf("%q %v %x %s", a.fields, a.refs, a.bytes, a.rest)
}

// spoils are, one by one, the lists of an answer, each to be written over with all the room behind it.
func (a fieldAnswer) spoils() []func() {
	var all []func()
	for _, list := range a.fields {
		all = append(all, func() { spoilAll(list, aField("spoilt", "spoilt")) })
	}
	for _, list := range a.refs {
		all = append(all, func() { spoilAll(list, ref(-7, -7, -7)) })
	}
	for _, list := range a.bytes {
		all = append(all, func() { spoilAll(list, 0xdd) })
	}
	return all
}

func encoderAnswer(e impl.Encoder) fieldAnswer {
	return fieldAnswer{fields: [][]impl.Field{e.Table.Entries}, refs: [][]impl.Ref{e.Open}, rest: fmt.Sprint(e.Table.Most, e.Table.Cap, e.Table.Added, e.Known, e.Blocked)}
}

func tableAnswer(t impl.Table, rest ...any) fieldAnswer {
	return fieldAnswer{fields: [][]impl.Field{t.Entries}, rest: fmt.Sprint(t.Most, t.Cap, t.Added, rest)}
}

// fieldArgs are arguments of the chapter within longer lists.
type fieldArgs struct {
	entries, list fenced[impl.Field]
	open          fenced[impl.Ref]
	b             fenced[byte]
}

func fenceFields(entries, list []impl.Field, open []impl.Ref, b []byte) *fieldArgs {
	mark := aField("mark", "behind")
	return &fieldArgs{amid(entries, mark), amid(list, mark), amid(open, ref(1, 2, 3)), amid(b, 0xee)}
}

func (a *fieldArgs) check(t *testing.T, call string) {
	t.Helper()
	a.entries.check(t, call)
	a.list.check(t, call)
	a.open.check(t, call)
	a.b.check(t, call)
}

// textsOf are all texts of lists of fields, with their bytes in memory.
func textsOf(lists ...[]impl.Field) []string {
	var texts []string
	for _, list := range lists {
		for _, f := range list {
			texts = append(texts, f.Name, f.Value)
		}
	}
	return texts
}

// share tells whether a byte of one is a byte of the other.
func share(a, b string) bool {
	if len(a) == 0 || len(b) == 0 {
		return false
	}
	from, other := uintptr(unsafe.Pointer(unsafe.StringData(a))), uintptr(unsafe.Pointer(unsafe.StringData(b)))
	return from < other+uintptr(len(b)) && other < from+uintptr(len(a))
}

func (a *fieldArgs) checkTexts(t *testing.T, call string, answer fieldAnswer) {
	t.Helper()
	given := textsOf(a.entries.list, a.list.list)
	for _, text := range textsOf(answer.fields...) {
		if slices.ContainsFunc(given, func(g string) bool { return share(g, text) }) {
			t.Errorf("%s: the text %.30q shares memory with an argument", call, text)
		}
	}
}

// parts are the lists of an answer, each told.
func (a fieldAnswer) parts() []string {
	var texts []string
	for _, list := range a.fields {
		texts = append(texts, fmt.Sprintf("%q", list))
	}
	for _, list := range a.refs {
		texts = append(texts, fmt.Sprint(list))
	}
	for _, list := range a.bytes {
		texts = append(texts, fmt.Sprint(list))
	}
	return texts
}

// checkFresh asks, spoils list by list of the answer, and asks again.
func (a *fieldArgs) checkFresh(t *testing.T, call string, ask func() fieldAnswer) {
	t.Helper()
	mustEnd(t, call, func() { ask() })
	a.check(t, call)
	want := ask().told()
	a.checkTexts(t, call, ask())
	for i := range ask().spoils() {
		answer := ask()
		before := answer.parts()
		answer.spoils()[i]()
		for j, part := range answer.parts() {
			if j != i && part != before[j] {
				t.Errorf("%s: list %d of the answer shares memory with list %d", call, j, i)
			}
		}
		a.check(t, call)
		if again := ask().told(); again != want {
			t.Errorf("%s: first %.200s, later %.200s", call, want, again)
		}
	}
}

// built is a text that stands in memory of its own, so that sharing can be seen.
func built(text string) string { return strings.Clone(text) }

func builtFields(list []impl.Field) []impl.Field {
	var own []impl.Field
	for _, f := range list {
		own = append(own, aField(built(f.Name), built(f.Value)))
	}
	return own
}

func TestP1Tables(t *testing.T) {
	for _, table := range append(plainTables(), wrongTables()...) {
		if len(table.Entries) > 200 {
			continue
		}
		f := aField(built("fresh"), built("one"))
		args := fenceFields(builtFields(table.Entries), []impl.Field{f}, nil, nil)
		table.Entries = args.entries.list
		for _, n := range []int{0, 1, 40, 100, table.Cap, table.Most, table.Most + 1, -1} {
			args.checkFresh(t, "TableCap", func() fieldAnswer {
				behind, code := impl.TableCap(table, n)
				return tableAnswer(behind, code)
			})
		}
		args.checkFresh(t, "TableAdd", func() fieldAnswer {
			behind, code := impl.TableAdd(table, args.list.list[0])
			return tableAnswer(behind, code)
		})
		for _, n := range []int{0, table.Added - 1, oldestOf(table), -1, math.MaxInt, math.MinInt} {
			args.checkFresh(t, "TableGet", func() fieldAnswer {
				f, code := impl.TableGet(table, n)
				return fieldAnswer{fields: [][]impl.Field{{f}}, rest: fmt.Sprint(code)}
			})
		}
		args.checkFresh(t, "TableOK", func() fieldAnswer { return fieldAnswer{rest: fmt.Sprint(impl.TableOK(table))} })
	}
}

func memoryEncoders() []impl.Encoder {
	full := openEncoder()
	full.Open = slices.Repeat(full.Open, 13)[:64]
	return []impl.Encoder{{}, plainEncoder(), openEncoder(), full, roomFor(9), roomFor(0, ref(8, 1, 0)), {Table: wideTable(), Blocked: 3}, {Known: 1}, {Open: []impl.Ref{{}}}, {Table: impl.Table{Cap: 1, Entries: pairsOf("a", "1")}}}
}

func TestP1Encoders(t *testing.T) {
	lists := [][]impl.Field{nil, pairsOf("a", "1"), pairsOf("fresh", "one", ":path", "/", "etag", "q", "fresh", "one"), pairsOf("n", "", "b", "2", "c", ""), pairsOf("A", ""), fixedAsked(), sectionOf(16384), make([]impl.Field, 65)}
	for _, e := range memoryEncoders() {
		for _, list := range lists {
			args := fenceFields(builtFields(e.Table.Entries), builtFields(list), e.Open, nil)
			e := e
			e.Table.Entries, e.Open = args.entries.list, args.open.list
			for _, stream := range []int{0, 4, 8, maxVar, -1} {
				args.checkFresh(t, "EncodeSection", func() fieldAnswer {
					behind, instr, section, code := impl.EncodeSection(e, stream, args.list.list)
					answer := encoderAnswer(behind)
					answer.bytes, answer.rest = [][]byte{instr, section}, answer.rest+fmt.Sprint(code)
					return answer
				})
			}
		}
		for _, b := range [][]byte{nil, {132}, {68}, {1}, {132, 72, 2, 255}, {0}, {129}, {255}} {
			args := fenceFields(builtFields(e.Table.Entries), nil, e.Open, b)
			e := e
			e.Table.Entries, e.Open = args.entries.list, args.open.list
			args.checkFresh(t, "ReadAcks", func() fieldAnswer {
				behind, used, code := impl.ReadAcks(e, args.b.list)
				answer := encoderAnswer(behind)
				answer.rest += fmt.Sprint(used, code)
				return answer
			})
			args.checkFresh(t, "EncoderOK", func() fieldAnswer { return fieldAnswer{rest: fmt.Sprint(impl.EncoderOK(e))} })
		}
	}
}

func TestP1Decoders(t *testing.T) {
	decoders := []impl.Decoder{{}, plainDecoder(), {Table: wideTable(pairsOf("a", "1")...)}, {Told: 1}, {Told: -1}, {Table: impl.Table{Cap: 1, Entries: pairsOf("a", "1")}}}
	for _, d := range decoders {
		for _, b := range append(instrRow(), join(instrRow()...), nil, []byte{0}, []byte{130, 1, 'z'}, []byte{3}, []byte{255}, []byte{31, 255}) {
			args := fenceFields(builtFields(d.Table.Entries), nil, nil, b)
			d := d
			d.Table.Entries = args.entries.list
			args.checkFresh(t, "ReadInstr", func() fieldAnswer {
				behind, used, code := impl.ReadInstr(d, args.b.list)
				return tableAnswer(behind.Table, behind.Told, used, code)
			})
		}
		for _, b := range [][]byte{nil, {0}, {10, 128, 129, 130, 128, 128}, {1, 128, 64, 1, 'x', 193}, {0, 193, 117, 1, 'q', 33, 'n', 1, 'v'}, {11}, {0, 31}, {10, 140}, {255}, make([]byte, 16385), make([]byte, 65537)} {
			args := fenceFields(builtFields(d.Table.Entries), nil, nil, b)
			d := d
			d.Table.Entries = args.entries.list
			args.checkFresh(t, "DecodeSection", func() fieldAnswer {
				list, need, code := impl.DecodeSection(d, args.b.list)
				return fieldAnswer{fields: [][]impl.Field{list}, rest: fmt.Sprint(need, code)}
			})
		}
	}
}

// What was read shares no memory with the bytes that it was read of.
func TestP1FieldTexts(t *testing.T) {
	b := ownInstr(aField("name", "value"))
	d, _, _ := impl.ReadInstr(impl.Decoder{Table: wideTable()}, b)
	section := join([]byte{0}, ownLine(aField("other", "text")))
	list, _, _ := impl.DecodeSection(d, section)
	clear(b)
	clear(section)
	if d.Table.Entries[0] != aField("name", "value") || list[0] != aField("other", "text") {
		t.Errorf("%v %v", d, list)
	}
}

// encoderNumbers are all fields of an encoder that have a number.
func encoderNumbers(e *impl.Encoder) []*int {
	list := []*int{&e.Table.Most, &e.Table.Cap, &e.Table.Added, &e.Known, &e.Blocked}
	for i := range e.Open {
		list = append(list, &e.Open[i].Stream, &e.Open[i].Need, &e.Open[i].Least)
	}
	return list
}

func TestP1FieldNumbers(t *testing.T) {
	list := pairsOf("fresh", "one", "a", "1", ":path", "/", "b", "2")
	plain := openEncoder()
	for i := range encoderNumbers(&plain) {
		for _, odd := range append(oddInts(), 19, 20, 21, 64, 65, 66, 199, 200, 201, 399, 400, 401, 4096, 4097, 10, 11, 12) {
			e := openEncoder()
			e.Open = slices.Clone(e.Open)
			*encoderNumbers(&e)[i] = odd
			mustEnd(t, "a call", func() {
				checkEncoderOK(t, e, encoderOKAsked(e))
				checkEncodeAsked(t, e, 4, list, map[string]int{})
				checkAcksAsked(t, e, []byte{132, 2, 68})
				checkTableAsked(t, e.Table)
			})
			d := impl.Decoder{Table: e.Table, Told: 20}
			mustEnd(t, "a call", func() {
				checkInstrAsked(t, d, []byte{0, 129, 1, 'x', 63, 20, 65, 'n', 0})
				checkDecodeAsked(t, d, []byte{20, 128, 65, 0})
			})
			d = impl.Decoder{Table: openEncoder().Table, Told: odd}
			checkInstrAsked(t, d, []byte{0})
			checkDecodeAsked(t, d, []byte{20, 128})
			checkEncodeAsked(t, openEncoder(), odd, list, map[string]int{})
		}
	}
}

func TestP1FieldsKeepNothing(t *testing.T) {
	checkKeepsNothing(t, func() string {
		var out strings.Builder
		for _, e := range memoryEncoders() {
			behind, instr, section, code := impl.EncodeSection(e, 4, pairsOf("fresh", "one", "a", "1", ":path", "/"))
			fmt.Fprintln(&out, behind, instr, section, code)
			acked, used, code := impl.ReadAcks(behind, []byte{132})
			fmt.Fprintln(&out, acked, used, code)
			d, used, code := impl.ReadInstr(impl.Decoder{Table: e.Table}, instr)
			fmt.Fprintln(&out, d, used, code)
			list, need, code := impl.DecodeSection(d, section)
			fmt.Fprintln(&out, list, need, code)
		}
		return out.String()
	})
}
