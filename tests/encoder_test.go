package tests

import (
	"bytes"
	"fmt"
	"math"
	"slices"
	"strings"
	"testing"

	"loop.example/g00012/impl"
)

func ref(stream, need, least int) impl.Ref {
	return impl.Ref{Stream: stream, Need: need, Least: least}
}

func sameEncoder(a, b impl.Encoder) bool {
	return sameTable(a.Table, b.Table) && a.Known == b.Known && a.Blocked == b.Blocked && slices.Equal(a.Open, b.Open)
}

func toldEncoder(e impl.Encoder) string {
	return fmt.Sprintf("{%s; Known %d, Blocked %d, Open %v}", toldTable(e.Table), e.Known, e.Blocked, e.Open)
}

func toldList(list []impl.Field) string {
	var texts []string
	for _, f := range list[:min(len(list), 10)] {
		texts = append(texts, toldField(f))
	}
	return strings.Join(texts, ", ")
}

func checkEncoderOK(t *testing.T, e impl.Encoder, want bool) {
	t.Helper()
	if got := impl.EncoderOK(e); got != want {
		t.Errorf("EncoderOK = %v, want %v of %s", got, want, toldEncoder(e))
	}
	if asked := encoderOKAsked(e); asked != want {
		t.Errorf("EncoderOK: asked is %v, want %v of %s", asked, want, toldEncoder(e))
	}
	code := impl.ErrBad
	if want {
		code = impl.OK
	}
	if _, _, _, got := impl.EncodeSection(e, 0, nil); got != code {
		t.Errorf("EncodeSection: %d of %s", got, toldEncoder(e))
	}
	if _, _, got := impl.ReadAcks(e, nil); got != code {
		t.Errorf("ReadAcks: %d of %s", got, toldEncoder(e))
	}
}

// checkEncode is told what is to be answered with no code.
func checkEncode(t *testing.T, e impl.Encoder, stream int, list []impl.Field, want impl.Encoder, instr, section []byte) {
	t.Helper()
	got, gotInstr, gotSection, code := impl.EncodeSection(e, stream, list)
	if code != impl.OK || !sameEncoder(got, want) || !bytes.Equal(gotInstr, instr) || !bytes.Equal(gotSection, section) {
		t.Errorf("EncodeSection of %s\nin %s\n  = %s %x %x %d\nwant %s %x %x", toldList(list), toldEncoder(e), toldEncoder(got), gotInstr, gotSection, code, toldEncoder(want), instr, section)
	}
	if code := checkEncodeAsked(t, e, stream, list, map[string]int{}); code != impl.OK {
		t.Errorf("asked is code %d", code)
	}
}

func checkEncodeAsked(t *testing.T, e impl.Encoder, stream int, list []impl.Field, met map[string]int) int {
	t.Helper()
	got, gotInstr, gotSection, gotCode := impl.EncodeSection(e, stream, list)
	want, instr, section, code := encodeAskedMet(e, stream, list, met)
	if gotCode != code || !sameEncoder(got, want) || !bytes.Equal(gotInstr, instr) || !bytes.Equal(gotSection, section) {
		t.Errorf("EncodeSection(.., %d, %s)\nin %s\n  = %s %x %x %d\nasked %s %x %x %d", stream, toldList(list), toldEncoder(e), toldEncoder(got), gotInstr, gotSection, gotCode, toldEncoder(want), instr, section, code)
	}
	return code
}

func refusesEncode(t *testing.T, e impl.Encoder, stream int, list []impl.Field, code int) {
	t.Helper()
	got, instr, section, gotCode := impl.EncodeSection(e, stream, list)
	if gotCode != code || !sameEncoder(got, impl.Encoder{}) || len(instr)+len(section) > 0 {
		t.Errorf("EncodeSection(.., %d, %d fields) = %s %x %x %d, want code %d alone", stream, len(list), toldEncoder(got), instr, section, gotCode, code)
	}
	checkEncodeAsked(t, e, stream, list, map[string]int{})
}

// plainEncoder has the entries 4, 5 and 6 of 33 each, two of them known.
func plainEncoder() impl.Encoder {
	return impl.Encoder{Table: tableOf(200, 132, 7, costing(33, 'a'), costing(33, 'b'), costing(33, 'c')), Known: 6, Blocked: 2, Open: []impl.Ref{ref(8, 7, 6), ref(0, 5, 4)}}
}

func eachEncoder(change func(e *impl.Encoder), ask func(e impl.Encoder)) {
	e := plainEncoder()
	change(&e)
	ask(e)
}

func TestEncoderEdges(t *testing.T) {
	good := func(e impl.Encoder) { t.Helper(); checkEncoderOK(t, e, true) }
	bad := func(e impl.Encoder) { t.Helper(); checkEncoderOK(t, e, false) }
	good(plainEncoder())
	good(impl.Encoder{})
	for _, n := range []int{0, 1, 7, -1, 8, math.MinInt, math.MaxInt} {
		ask := good
		if n < 0 || n > 7 {
			ask = bad
		}
		eachEncoder(func(e *impl.Encoder) { e.Known = n }, ask)
	}
	for _, n := range []int{0, 1, 63, 64, -1, 65, math.MinInt, math.MaxInt} {
		ask := good
		if n < 0 || n > 64 {
			ask = bad
		}
		eachEncoder(func(e *impl.Encoder) { e.Blocked = n }, ask)
	}
	for _, n := range []int{0, 1, 63, 64, 65, 5000} {
		ask := good
		if n > 64 {
			ask = bad
		}
		eachEncoder(func(e *impl.Encoder) { e.Open = slices.Repeat([]impl.Ref{ref(4, 7, 3)}, n) }, ask)
	}
	for _, table := range wrongTables() {
		bad(impl.Encoder{Table: table})
	}
}

func TestEncoderRefs(t *testing.T) {
	for _, c := range []struct {
		ref impl.Ref
		ok  bool
	}{
		{ref(0, 1, 0), true}, {ref(maxVar, 1, 0), true}, {ref(-1, 1, 0), false}, {ref(maxVar+1, 1, 0), false}, {ref(math.MinInt, 1, 0), false}, {ref(math.MaxInt, 1, 0), false},
		{ref(0, 7, 0), true}, {ref(0, 7, 6), true}, {ref(0, 0, 0), false}, {ref(0, 8, 0), false}, {ref(0, -1, -2), false}, {ref(0, math.MaxInt, 0), false}, {ref(0, math.MinInt, 0), false},
		{ref(0, 7, 7), false}, {ref(0, 7, 8), false}, {ref(0, 7, -1), false}, {ref(0, 1, 1), false}, {ref(0, 3, 2), true}, {ref(0, 3, 3), false}, {ref(0, 3, math.MinInt), false}, {ref(0, 3, math.MaxInt), false},
		{ref(0, 0, -1), false}, {impl.Ref{}, false},
	} {
		for at := range 3 {
			e := plainEncoder()
			e.Open = slices.Insert(slices.Clone(e.Open), at, c.ref)
			checkEncoderOK(t, e, c.ok)
		}
	}
}

func TestEncodeStatic(t *testing.T) {
	for i, f := range fixedAsked() {
		for _, e := range []impl.Encoder{{}, plainEncoder(), {Table: wideTable(f), Known: 1, Blocked: 1}} {
			checkEncode(t, e, 4, []impl.Field{f}, e, nil, []byte{0, byte(192 + i)})
		}
	}
	all := fixedAsked()
	var section []byte
	for i := range all {
		section = append(section, byte(192+i))
	}
	checkEncode(t, impl.Encoder{}, 0, all, impl.Encoder{}, nil, join([]byte{0}, section))
}

func TestEncodeStaticName(t *testing.T) {
	for _, c := range []struct {
		name string
		at   byte
	}{{":path", 0}, {":method", 1}, {":authority", 5}, {":scheme", 6}, {":status", 7}, {"accept", 15}, {"content-length", 16}, {"content-type", 17}, {"cookie", 19}, {"date", 20}, {"etag", 21}, {"location", 22}, {"priority", 23}} {
		f := aField(c.name, "zz")
		checkEncode(t, impl.Encoder{}, 0, []impl.Field{f}, impl.Encoder{}, nil, []byte{0, 96 + c.at, 2, 'z', 'z'})
		e := impl.Encoder{Table: tableOf(500, 500, 9), Blocked: 1}
		want := impl.Encoder{Table: tableOf(500, 500, 10, f), Blocked: 1, Open: []impl.Ref{ref(0, 10, 9)}}
		checkEncode(t, e, 0, []impl.Field{f}, want, []byte{192 + c.at, 2, 'z', 'z'}, []byte{10, 128})
	}
}

func TestEncodeLiteral(t *testing.T) {
	for n := 1; n <= 64; n++ {
		f := aField(strings.Repeat("n", n), strings.Repeat("v", 2*n))
		name, value := join(prefixAsked(n, 5, 32), []byte(f.Name)), textAsked(f.Value)
		checkEncode(t, impl.Encoder{}, 0, []impl.Field{f}, impl.Encoder{}, nil, join([]byte{0}, name, value))
	}
	f := aField("x", strings.Repeat("v", 1024))
	checkEncode(t, impl.Encoder{}, 0, []impl.Field{f}, impl.Encoder{}, nil, join([]byte{0, 33, 'x', 127, 129, 7}, []byte(f.Value)))
	long := aField(strings.Repeat("n", 31), "")
	checkEncode(t, impl.Encoder{}, 0, []impl.Field{long}, impl.Encoder{}, nil, join([]byte{0, 63, 0}, []byte(long.Name), []byte{0}))
	e := impl.Encoder{Table: tableOf(200, 200, 0), Blocked: 1}
	want := impl.Encoder{Table: tableOf(200, 200, 1, long), Blocked: 1, Open: []impl.Ref{ref(0, 1, 0)}}
	checkEncode(t, e, 0, []impl.Field{long}, want, join([]byte{95, 0}, []byte(long.Name), []byte{0}), []byte{1, 128})
}

func TestEncodeCounts(t *testing.T) {
	for _, e := range []impl.Encoder{{}, plainEncoder(), {Table: wideTable(), Blocked: 64}} {
		checkEncode(t, e, 0, nil, e, nil, []byte{0})
		for _, n := range []int{0, 1, 2, 63, 64} {
			list := slices.Repeat([]impl.Field{aField(":method", "GET")}, n)
			checkEncode(t, e, 0, list, e, nil, join([]byte{0}, bytes.Repeat([]byte{193}, n)))
		}
		for _, n := range []int{65, 66, 4096, 4097, 10000} {
			refusesEncode(t, e, 0, slices.Repeat([]impl.Field{aField(":method", "GET")}, n), impl.ErrLong)
			refusesEncode(t, e, 0, make([]impl.Field, n), impl.ErrLong)
			refusesEncode(t, e, -1, make([]impl.Field, n), impl.ErrLong)
			refusesEncode(t, impl.Encoder{Known: 1}, 0, make([]impl.Field, n), impl.ErrLong)
		}
	}
}

func TestEncodeStreams(t *testing.T) {
	f := []impl.Field{aField("x", "1")}
	e := impl.Encoder{Table: wideTable(), Blocked: 1}
	for _, stream := range []int{0, 1, 4, maxVar - 1, maxVar} {
		want := impl.Encoder{Table: wideTable(f...), Blocked: 1, Open: []impl.Ref{ref(stream, 1, 0)}}
		checkEncode(t, e, stream, f, want, []byte{65, 'x', 1, '1'}, []byte{1, 128})
	}
	for _, stream := range []int{-1, maxVar + 1, math.MinInt, math.MaxInt} {
		refusesEncode(t, e, stream, f, impl.ErrBad)
		refusesEncode(t, e, stream, nil, impl.ErrBad)
	}
}

// The newest that may be referred to is, be it that there are newer ones.
func TestEncodeThere(t *testing.T) {
	x, y := aField("x", "1"), aField("y", "2")
	table := tableOf(500, 500, 14, x, y, x, y) // 10 to 13
	for _, c := range []struct {
		known, blocked int
		open           []impl.Ref
		f              impl.Field
		section        []byte
		refs           []impl.Ref
	}{
		{14, 0, nil, x, []byte{13, 128}, []impl.Ref{ref(4, 13, 12)}},
		{13, 0, nil, x, []byte{13, 128}, []impl.Ref{ref(4, 13, 12)}},
		{12, 0, nil, x, []byte{11, 128}, []impl.Ref{ref(4, 11, 10)}},
		{11, 0, nil, x, []byte{11, 128}, []impl.Ref{ref(4, 11, 10)}},
		{10, 0, nil, x, []byte{0, 33, 'x', 1, '1'}, nil},
		{0, 0, nil, x, []byte{0, 33, 'x', 1, '1'}, nil},
		{10, 1, nil, x, []byte{13, 128}, []impl.Ref{ref(4, 13, 12)}},
		{14, 0, nil, y, []byte{14, 128}, []impl.Ref{ref(4, 14, 13)}},
		{13, 0, nil, y, []byte{12, 128}, []impl.Ref{ref(4, 12, 11)}},
		{12, 0, nil, y, []byte{12, 128}, []impl.Ref{ref(4, 12, 11)}},
		{11, 0, nil, y, []byte{0, 33, 'y', 1, '2'}, nil},
		{11, 1, []impl.Ref{ref(8, 12, 0)}, y, []byte{0, 33, 'y', 1, '2'}, []impl.Ref{ref(8, 12, 0)}},
		{11, 1, []impl.Ref{ref(8, 11, 0)}, y, []byte{14, 128}, []impl.Ref{ref(8, 11, 0), ref(4, 14, 13)}},
		{11, 1, []impl.Ref{ref(4, 12, 0)}, y, []byte{14, 128}, []impl.Ref{ref(4, 12, 0), ref(4, 14, 13)}},
		{11, 0, []impl.Ref{ref(4, 12, 0)}, y, []byte{14, 128}, []impl.Ref{ref(4, 12, 0), ref(4, 14, 13)}},
		{11, 0, []impl.Ref{ref(4, 11, 0)}, y, []byte{0, 33, 'y', 1, '2'}, []impl.Ref{ref(4, 11, 0)}},
	} {
		e := impl.Encoder{Table: table, Known: c.known, Blocked: c.blocked, Open: c.open}
		want := e
		want.Open = c.refs
		checkEncode(t, e, 4, []impl.Field{c.f}, want, nil, c.section)
	}
}

func TestEncodeSeveral(t *testing.T) {
	a, b, c := aField("a", "1"), aField("b", "2"), aField("c", "3")
	e := impl.Encoder{Table: tableOf(500, 500, 100, a, b, c), Known: 100} // 97 to 99
	want := e
	want.Open = []impl.Ref{ref(4, 100, 97)}
	checkEncode(t, e, 4, []impl.Field{b, c, a, a, c}, want, nil, []byte{100, 129, 128, 130, 130, 128})
	want.Open = []impl.Ref{ref(4, 99, 98)}
	checkEncode(t, e, 4, []impl.Field{b, b}, want, nil, []byte{99, 128, 128})
	n := aField("n", "4")
	e.Blocked, want.Blocked = 1, 1
	want.Table = tableOf(500, 500, 101, a, b, c, n)
	want.Open = []impl.Ref{ref(4, 101, 98)}
	checkEncode(t, e, 4, []impl.Field{n, b, n, aField(":path", "/")}, want, []byte{65, 'n', 1, '4'}, []byte{101, 128, 130, 128, 192})
	// Far ones are told in two bytes.
	var many []impl.Field
	for i := range 80 {
		many = append(many, aField(fmt.Sprintf("n%d", i), ""))
	}
	e = impl.Encoder{Table: tableOf(4096, 4096, 300, many...), Known: 300}
	want = e
	want.Open = []impl.Ref{ref(0, 300, 220)}
	checkEncode(t, e, 0, []impl.Field{many[79], many[17], many[16], many[15], many[0]}, want, nil, []byte{255, 45, 128, 190, 191, 0, 191, 1, 191, 16})
}

// A table of as many entries as one can have: each of them is found, the oldest too.
func TestEncodeFullTable(t *testing.T) {
	var many []impl.Field
	for i := range 124 {
		many = append(many, aField(string(nameBytes[i%len(nameBytes)]), ""))
	}
	many[0].Name, many[1].Name, many[123].Name = "aa", "bb", "cc"
	for _, added := range []int{124, 125, 247, 248, 1000, maxVar - 1} {
		e := impl.Encoder{Table: tableOf(4096, 4096, added, many...), Known: added, Blocked: 1}
		for i, f := range many {
			checkEncodeAsked(t, e, 0, []impl.Field{f}, map[string]int{})
			_, _, section, _ := impl.EncodeSection(e, 0, []impl.Field{f})
			need, refers := refersTo(t, section)
			if newest := added - 124 + i; (i < 2 || i == 123) && (need != newest+1 || !slices.Equal(refers, []int{newest})) {
				t.Errorf("entry %d of 124, Added %d: need %d, refers to %v", i, added, need, refers)
			}
		}
	}
}

func TestEncodeHalf(t *testing.T) {
	for _, limit := range []int{0, 33, 65, 66, 67, 68, 100, 101, 2047, 2048, 2049, 2239, 2240, 2241, 4095, 4096} {
		for cost := 33; cost <= 1120; cost++ {
			if d := cost - limit/2; !inRange(d, -2, 2) && !inRange(cost, 33, 35) {
				continue
			}
			f := costing(cost, 'x')
			e := impl.Encoder{Table: tableOf(4096, limit, 3), Blocked: 1}
			checkEncodeAsked(t, e, 0, []impl.Field{f}, map[string]int{})
			behind, instr, _, _ := impl.EncodeSection(e, 0, []impl.Field{f})
			if added := cost <= limit/2; added != (behind.Table.Added == 4) || added != (len(instr) > 0) {
				t.Errorf("a field that costs %d, Cap %d: Added %d", cost, limit, behind.Table.Added)
			}
		}
	}
}

func TestEncodeLastNumber(t *testing.T) {
	f := []impl.Field{aField("x", "1")}
	e := impl.Encoder{Table: tableOf(200, 200, maxVar-2), Known: maxVar - 2, Blocked: 1}
	want := impl.Encoder{Table: tableOf(200, 200, maxVar-1, f...), Known: maxVar - 2, Blocked: 1, Open: []impl.Ref{ref(0, maxVar-1, maxVar-2)}}
	checkEncode(t, e, 0, f, want, []byte{65, 'x', 1, '1'}, join(prefixAsked(maxVar-1, 8, 0), []byte{128}))
	e.Table.Added = maxVar - 1
	checkEncode(t, e, 0, f, e, nil, []byte{0, 33, 'x', 1, '1'})
}

// roomFor is an encoder in which one entry has to go for the next one of 33.
func roomFor(known int, open ...impl.Ref) impl.Encoder {
	return impl.Encoder{Table: tableOf(99, 99, 9, costing(33, 'a'), costing(33, 'b'), costing(33, 'c')), Known: known, Blocked: 2, Open: open} // 6 to 8
}

func TestEncodeGoing(t *testing.T) {
	fresh := costing(33, 'n')
	for _, c := range []struct {
		e    impl.Encoder
		list []impl.Field
		goes bool
	}{
		{roomFor(9), nil, true},
		{roomFor(7), nil, true}, // 6 is known
		{roomFor(6), nil, false},
		{roomFor(0), nil, false},
		{roomFor(9, ref(8, 9, 7)), nil, true},
		{roomFor(9, ref(8, 9, 6)), nil, false},
		{roomFor(9, ref(8, 9, 5)), nil, false},
		{roomFor(9, ref(8, 9, 8), ref(12, 8, 6), ref(4, 9, 7)), nil, false},
		{roomFor(9, ref(8, 9, 8), ref(12, 8, 7), ref(4, 9, 7)), nil, true},
		{roomFor(9), []impl.Field{costing(33, 'a')}, false},
		{roomFor(9), []impl.Field{costing(33, 'b')}, true},
		{roomFor(9), []impl.Field{costing(33, 'c')}, true},
		{roomFor(9), []impl.Field{costing(33, 'c'), costing(33, 'a')}, false},
		{roomFor(9), []impl.Field{costing(33, 'a'), costing(33, 'c')}, false},
	} {
		list := append(slices.Clone(c.list), fresh)
		checkEncodeAsked(t, c.e, 4, list, map[string]int{})
		behind, instr, _, code := impl.EncodeSection(c.e, 4, list)
		if code != impl.OK || (behind.Table.Added == 10) != c.goes || (len(instr) > 0) != c.goes {
			t.Errorf("Known %d, Open %v, with %d fields ahead: Added %d", c.e.Known, c.e.Open, len(c.list), behind.Table.Added)
		}
	}
}

// Where none has to go nothing is asked of those that are there.
func TestEncodeNoneGoing(t *testing.T) {
	fresh := costing(33, 'n')
	e := roomFor(0, ref(8, 1, 0))
	e.Table.Most, e.Table.Cap = 132, 132
	e.Blocked = 1
	want := e
	want.Table = tableOf(132, 132, 10, append(slices.Clone(e.Table.Entries), fresh)...)
	checkEncode(t, e, 4, []impl.Field{fresh}, want, []byte{65, 'n', 0}, []byte{0, 33, 'n', 0})
	want.Open = append(slices.Clone(e.Open), ref(8, 10, 9))
	checkEncode(t, e, 8, []impl.Field{fresh}, want, []byte{65, 'n', 0}, []byte{10, 128})
}

// Several have to go: the newest of them tells.
func TestEncodeSeveralGoing(t *testing.T) {
	table := tableOf(132, 132, 9, costing(33, 'a'), costing(33, 'b'), costing(33, 'c'), costing(33, 'd')) // 5 to 8
	for _, c := range []struct {
		cost, known, least int
		goes               bool
	}{
		{33, 6, 6, true}, {33, 5, 6, false}, {33, 6, 5, false},
		{34, 7, 7, true}, {34, 6, 7, false}, {34, 7, 6, false}, {66, 7, 7, true}, {66, 6, 9, false}, {66, 9, 6, false},
	} {
		e := impl.Encoder{Table: table, Known: c.known, Blocked: 2}
		e.Open = []impl.Ref{ref(8, 9, min(c.least, 8))}
		fresh := costing(c.cost, 'n')
		checkEncodeAsked(t, e, 4, []impl.Field{fresh}, map[string]int{})
		if behind, _, _, _ := impl.EncodeSection(e, 4, []impl.Field{fresh}); (behind.Table.Added == 10) != c.goes {
			t.Errorf("cost %d, Known %d, Least %d: Added %d", c.cost, c.known, c.least, behind.Table.Added)
		}
	}
	// One that costs more than half is not added, be there room or not.
	e := impl.Encoder{Table: table, Known: 9, Blocked: 2}
	checkEncode(t, e, 4, []impl.Field{costing(67, 'n')}, e, nil, join([]byte{0}, ownLine(costing(67, 'n'))))
}

// What was just added may be neither let go nor counted as known.
func TestEncodeAddedByThis(t *testing.T) {
	e := impl.Encoder{Table: tableOf(99, 99, 0), Blocked: 1}
	list := []impl.Field{costing(33, 'a'), costing(33, 'b'), costing(33, 'c'), costing(33, 'd'), costing(33, 'a')}
	want := impl.Encoder{Table: tableOf(99, 99, 3, list[:3]...), Blocked: 1, Open: []impl.Ref{ref(0, 3, 0)}}
	checkEncode(t, e, 0, list, want, []byte{65, 'a', 0, 65, 'b', 0, 65, 'c', 0}, []byte{3, 130, 129, 128, 33, 'd', 0, 130})
	e.Blocked, want.Blocked, want.Open = 0, 0, nil
	checkEncode(t, e, 0, list, want, []byte{65, 'a', 0, 65, 'b', 0, 65, 'c', 0}, []byte{0, 33, 'a', 0, 33, 'b', 0, 33, 'c', 0, 33, 'd', 0, 33, 'a', 0})
}

func TestEncodeWaiting(t *testing.T) {
	f := []impl.Field{aField("x", "1")}
	for blocked := range 5 {
		for waiting := range 5 {
			for _, stream := range []int{0, 4, 40, maxVar} {
				e := impl.Encoder{Table: tableOf(400, 400, 5), Known: 3, Blocked: blocked}
				for i := range waiting {
					// Each waits by two, and has one that doesn't.
					e.Open = append(e.Open, ref(4*i, 4, 3), ref(4*i, 3, 1), ref(4*i, 5, 4))
				}
				e.Open = append(e.Open, ref(40, 3, 2), ref(maxVar-1, 1, 0))
				checkEncodeAsked(t, e, stream, f, map[string]int{})
				behind, _, section, _ := impl.EncodeSection(e, stream, f)
				may := stream < 4*waiting || waiting < blocked
				if may != (section[0] == 6) || behind.Table.Added != 6 || len(behind.Open)-len(e.Open) != way(may) {
					t.Errorf("stream %d, %d wait, Blocked %d: section %x", stream, waiting, blocked, section)
				}
			}
		}
	}
}

func TestEncodeOpenFull(t *testing.T) {
	known, fresh := aField("k", "1"), aField("x", "1")
	for _, n := range []int{0, 62, 63, 64} {
		e := impl.Encoder{Table: tableOf(400, 400, 5, known), Known: 5, Blocked: 64, Open: slices.Repeat([]impl.Ref{ref(0, 5, 4)}, n)}
		want := e
		want.Table = tableOf(400, 400, 6, known, fresh)
		instr := []byte{65, 'x', 1, '1'}
		if n == 64 {
			checkEncode(t, e, 0, []impl.Field{known}, e, nil, []byte{0, 33, 'k', 1, '1'})
			checkEncode(t, e, 0, []impl.Field{fresh}, want, instr, []byte{0, 33, 'x', 1, '1'})
			continue
		}
		want.Open = append(slices.Clone(e.Open), ref(0, 6, 5))
		checkEncode(t, e, 0, []impl.Field{fresh}, want, instr, []byte{6, 128})
		want.Table, want.Open = e.Table, append(slices.Clone(e.Open), ref(0, 5, 4))
		checkEncode(t, e, 0, []impl.Field{known}, want, nil, []byte{5, 128})
	}
}

// sectionOf has fields that stand, without a table, in just so many bytes behind need.
func sectionOf(n int) []impl.Field {
	var list []impl.Field
	for n > 2000 {
		list, n = append(list, aField("x", strings.Repeat("v", 995))), n-1000 // 33, the name, 127 and two more, 995
	}
	list = append(list, aField("x", strings.Repeat("v", 995)))
	n -= 1000
	return append(list, aField("x", strings.Repeat("v", n-5)))
}

func TestEncodeLongest(t *testing.T) {
	list := sectionOf(16383)
	_, _, section, code := impl.EncodeSection(impl.Encoder{}, 0, list)
	if code != impl.OK || len(section) != 16384 {
		t.Fatalf("%d bytes, code %d", len(section), code)
	}
	checkEncodeAsked(t, impl.Encoder{}, 0, list, map[string]int{})
	refusesEncode(t, impl.Encoder{}, 0, sectionOf(16384), impl.ErrLong)
	refusesEncode(t, impl.Encoder{}, 0, slices.Repeat([]impl.Field{aField(strings.Repeat("n", 64), strings.Repeat("v", 1024))}, 64), impl.ErrLong)
	// With the table the same stands in fewer bytes; and what was added is not told where the section is too long.
	e := impl.Encoder{Table: wideTable(), Blocked: 1}
	long := aField(strings.Repeat("n", 64), strings.Repeat("v", 1024))
	want := impl.Encoder{Table: wideTable(long), Blocked: 1, Open: []impl.Ref{ref(0, 1, 0)}}
	checkEncode(t, e, 0, slices.Repeat([]impl.Field{long}, 64), want, ownInstr(long), join([]byte{1}, bytes.Repeat([]byte{128}, 64)))
	list = append(sectionOf(16384-1000), aField("y", "1"), aField("y", strings.Repeat("w", 1000)))
	for n := range list {
		list[n].Name = "x" + string(nameBytes[40+n])
	}
	if _, instr, section, code := impl.EncodeSection(e, 0, list[:10]); code != impl.OK || len(instr) == 0 || len(section) < 6000 {
		t.Errorf("%d bytes of instructions, %d of a section, code %d", len(instr), len(section), code)
	}
	refusesEncode(t, e, 0, append(list, list[5:15]...), impl.ErrLong)
}

func TestEncodeWrong(t *testing.T) {
	f := []impl.Field{aField("x", "1")}
	for _, e := range []impl.Encoder{{Known: 1}, {Known: -1}, {Blocked: 65}, {Open: []impl.Ref{{}}}, {Table: impl.Table{Cap: 1}}} {
		refusesEncode(t, e, 0, f, impl.ErrBad)
		refusesEncode(t, e, 0, sectionOf(16384), impl.ErrBad)
		refusesEncode(t, e, -1, nil, impl.ErrBad)
	}
	for _, wrong := range []impl.Field{{}, {Name: "A"}, {Name: "x", Value: "\n"}, {Name: strings.Repeat("x", 65)}, {Name: "x", Value: strings.Repeat("v", 1025)}} {
		for at := range 3 {
			list := slices.Insert(pairsOf("a", "1", ":path", "/"), at, wrong)
			refusesEncode(t, plainEncoder(), 0, list, impl.ErrBad)
		}
		refusesEncode(t, plainEncoder(), 0, append(sectionOf(16384), wrong), impl.ErrBad)
	}
}
