package tests

import (
	"bytes"
	"fmt"
	"math"
	"slices"
	"strings"
	"testing"

	"loop.example/g00012/impl"
)

func sameDecoder(a, b impl.Decoder) bool { return sameTable(a.Table, b.Table) && a.Told == b.Told }

func toldDecoder(d impl.Decoder) string {
	return fmt.Sprintf("{%s; Told %d}", toldTable(d.Table), d.Told)
}

func checkInstr(t *testing.T, d impl.Decoder, b []byte, want impl.Decoder, used int) {
	t.Helper()
	got, gotUsed, code := impl.ReadInstr(d, b)
	if code != impl.OK || gotUsed != used || !sameDecoder(got, want) {
		t.Errorf("ReadInstr(.., %.40x) of %d bytes = %s %d %d, want %s %d, of %s", b, len(b), toldDecoder(got), gotUsed, code, toldDecoder(want), used, toldDecoder(d))
	}
	checkInstrAsked(t, d, b)
}

func checkInstrAsked(t *testing.T, d impl.Decoder, b []byte) int {
	t.Helper()
	got, gotUsed, gotCode := impl.ReadInstr(d, b)
	want, used, code := readInstrAsked(d, b)
	if gotCode != code || gotUsed != used || !sameDecoder(got, want) {
		t.Errorf("ReadInstr(.., %.40x) of %d bytes = %s %d %d, asked %s %d %d, of %s", b, len(b), toldDecoder(got), gotUsed, gotCode, toldDecoder(want), used, code, toldDecoder(d))
	}
	return code
}

func refusesInstr(t *testing.T, d impl.Decoder, b []byte, code int) {
	t.Helper()
	got, used, gotCode := impl.ReadInstr(d, b)
	if gotCode != code || used != 0 || !sameDecoder(got, impl.Decoder{}) {
		t.Errorf("ReadInstr(.., %.40x) of %d bytes = %s %d %d, want code %d alone", b, len(b), toldDecoder(got), used, gotCode, code)
	}
	checkInstrAsked(t, d, b)
}

// plainDecoder has the entries 7, 8 and 9 of 34 each.
func plainDecoder() impl.Decoder {
	return impl.Decoder{Table: tableOf(200, 140, 10, aField("a", "1"), aField("b", "2"), aField("c", "3")), Told: 4}
}

// decoderWith is d with a table of these.
func decoderWith(d impl.Decoder, limit, added int, entries ...impl.Field) impl.Decoder {
	d.Table = tableOf(d.Table.Most, limit, added, entries...)
	return d
}

func TestInstrEach(t *testing.T) {
	d := plainDecoder()
	a, b, c := d.Table.Entries[0], d.Table.Entries[1], d.Table.Entries[2]
	checkInstr(t, d, nil, d, 0)
	// Names of the fixed table: 37 and 39 more than Cap lets beside all three.
	checkInstr(t, d, []byte{192 + 21, 1, 'q'}, decoderWith(d, 140, 11, a, b, c, aField("etag", "q")), 3)
	checkInstr(t, d, []byte{192, 3, 'q', '/', 0x80}, decoderWith(d, 140, 11, b, c, aField(":path", "q/\x80")), 5)
	checkInstr(t, d, []byte{215, 0}, decoderWith(d, 140, 11, b, c, aField("priority", "")), 2)
	// Names of the table, the newest first.
	checkInstr(t, d, []byte{128, 1, '9'}, decoderWith(d, 140, 11, a, b, c, aField("c", "9")), 3)
	checkInstr(t, d, []byte{129, 1, '9'}, decoderWith(d, 140, 11, a, b, c, aField("b", "9")), 3)
	checkInstr(t, d, []byte{130, 0}, decoderWith(d, 140, 11, a, b, c, aField("a", "")), 2)
	// With its name, the bit 32 counting for nothing.
	checkInstr(t, d, []byte{65, 'n', 1, '9'}, decoderWith(d, 140, 11, a, b, c, aField("n", "9")), 4)
	checkInstr(t, d, []byte{97, 'n', 1, '9'}, decoderWith(d, 140, 11, a, b, c, aField("n", "9")), 4)
	// The capacity.
	checkInstr(t, d, []byte{32}, decoderWith(d, 0, 10), 1)
	checkInstr(t, d, []byte{63, 37}, decoderWith(d, 68, 10, b, c), 2)
	checkInstr(t, d, []byte{63, 36}, decoderWith(d, 67, 10, c), 2)
	checkInstr(t, d, []byte{63, 169, 1}, decoderWith(d, 200, 10, a, b, c), 3)
	// Once more.
	checkInstr(t, d, []byte{0}, decoderWith(d, 140, 11, a, b, c, c), 1)
	checkInstr(t, d, []byte{2}, decoderWith(d, 140, 11, a, b, c, a), 1)
	checkInstr(t, d, []byte{2, 2, 0}, decoderWith(d, 140, 13, c, a, b, b), 3)
}

func TestInstrEntries(t *testing.T) {
	d := plainDecoder()
	for n := range 40 {
		checkInstrAsked(t, d, []byte{byte(192 + n), 0})
		checkInstrAsked(t, d, []byte{byte(128 + n), 0})
		if n < 31 {
			checkInstrAsked(t, d, []byte{byte(n)})
		}
	}
	refusesInstr(t, d, []byte{192 + 24, 0}, impl.ErrTable)
	refusesInstr(t, d, []byte{255, 0, 0}, impl.ErrTable)
	refusesInstr(t, d, []byte{131, 0}, impl.ErrTable)
	refusesInstr(t, d, []byte{138, 0}, impl.ErrTable)
	refusesInstr(t, d, join(prefixAsked(maxVar, 6, 128), []byte{0}), impl.ErrTable)
	refusesInstr(t, d, join(prefixAsked(maxVar, 6, 192), []byte{0}), impl.ErrTable)
	refusesInstr(t, d, prefixAsked(maxVar, 5, 0), impl.ErrTable)
	refusesInstr(t, d, []byte{3}, impl.ErrTable)
	refusesInstr(t, d, []byte{9}, impl.ErrTable)
	refusesInstr(t, d, []byte{10}, impl.ErrTable)
	refusesInstr(t, impl.Decoder{}, []byte{0}, impl.ErrTable)
	refusesInstr(t, impl.Decoder{}, []byte{128, 0}, impl.ErrTable)
	// One that has gone by an instruction ahead of it.
	refusesInstr(t, d, []byte{32, 0}, impl.ErrTable)
	refusesInstr(t, d, []byte{63, 37, 2}, impl.ErrTable)
	checkInstr(t, d, []byte{63, 37, 1}, decoderWith(d, 68, 11, d.Table.Entries[2], d.Table.Entries[1]), 3)
}

// What is once more may be the one that goes for it, and a name may be that of one that goes.
func TestInstrOfOneThatGoes(t *testing.T) {
	d := impl.Decoder{Table: tableOf(100, 70, 2, aField("a", "1"), aField("b", "2"))}
	checkInstr(t, d, []byte{1}, decoderWith(d, 70, 3, aField("b", "2"), aField("a", "1")), 1)
	checkInstr(t, d, []byte{129, 3, 'x', 'y', 'z'}, decoderWith(d, 70, 3, aField("b", "2"), aField("a", "xyz")), 5)
	checkInstr(t, d, join([]byte{128, 37}, bytes.Repeat([]byte{'x'}, 37)), decoderWith(d, 70, 3, aField("b", strings.Repeat("x", 37))), 39)
}

func TestInstrCosts(t *testing.T) {
	d := plainDecoder()
	for _, c := range []struct {
		cost int
		code int
	}{{139, impl.OK}, {140, impl.OK}, {141, impl.ErrTable}, {200, impl.ErrTable}, {201, impl.ErrTable}} {
		f := costing(c.cost, 'x')
		if code := checkInstrAsked(t, d, ownInstr(f)); code != c.code {
			t.Errorf("cost %d: asked is %d", c.cost, code)
		}
		named := aField("etag", strings.Repeat("v", c.cost-36))
		if code := checkInstrAsked(t, d, join([]byte{192 + 21}, textAsked(named.Value))); code != c.code {
			t.Errorf("cost %d: asked is %d", c.cost, code)
		}
	}
	for _, n := range []int{0, 1, 140, 199, 200} {
		if code := checkInstrAsked(t, d, prefixAsked(n, 5, 32)); code != impl.OK {
			t.Errorf("capacity %d: asked is %d", n, code)
		}
	}
	for _, n := range []int{201, 4096, 4097, maxVar} {
		refusesInstr(t, d, prefixAsked(n, 5, 32), impl.ErrTable)
	}
	d.Table.Added = maxVar - 2
	checkInstr(t, d, []byte{0}, decoderWith(d, 140, maxVar-1, append(slices.Clone(d.Table.Entries), aField("c", "3"))...), 1)
	refusesInstr(t, d, []byte{0, 0}, impl.ErrTable)
	refusesInstr(t, d, []byte{0, 65, 'n', 0}, impl.ErrTable)
	checkInstr(t, d, []byte{0, 65, 'n'}, decoderWith(d, 140, maxVar-1, append(slices.Clone(d.Table.Entries), aField("c", "3"))...), 1)
}

// A name or value that is too long is refused as soon as its number of bytes is told.
func TestInstrTooLong(t *testing.T) {
	d := impl.Decoder{Table: wideTable(aField("a", "1"))}
	for _, n := range []int{0, 1, 31, 63, 64, 65, 66, 5000, maxVar} {
		told := prefixAsked(n, 5, 64)
		there := bytes.Repeat([]byte{'n'}, min(n, 70))
		for _, b := range [][]byte{told, join(told, there), join(told, there, []byte{0}), join(told, there, []byte{1, 'v'})} {
			if n > 64 {
				refusesInstr(t, d, b, impl.ErrForm)
			} else {
				checkInstrAsked(t, d, b)
			}
		}
	}
	for _, ahead := range [][]byte{{192 + 21}, {192 + 30}, {128}, {128 + 30}, {65, 'n'}, {65, 'N'}, {64}} {
		for _, n := range []int{0, 1, 126, 127, 1023, 1024, 1025, 1026, 5000, maxVar} {
			told := join(ahead, prefixAsked(n, 7, 0))
			for _, b := range [][]byte{told, join(told, bytes.Repeat([]byte{'v'}, min(n, 1030))), join(told, bytes.Repeat([]byte{'v'}, min(max(n-1, 0), 1030)))} {
				if n > 1024 {
					refusesInstr(t, d, b, impl.ErrForm)
				} else {
					checkInstrAsked(t, d, b)
				}
			}
		}
	}
}

func TestInstrFirstBytes(t *testing.T) {
	d := plainDecoder()
	for c := range 256 {
		for _, behind := range [][]byte{nil, {0}, {1}, {1, 'v'}, []byte("nnnnnnnnnnnnnnnnnnnnnnnnnnnnnnnn\x01v"), {0, 0, 0}} {
			checkInstrAsked(t, d, join([]byte{byte(c)}, behind))
		}
		name := join(bytes.Repeat([]byte{'n'}, c%32), []byte{1, 'v'})
		if c >= 96 && c < 127 {
			plain, used, code := impl.ReadInstr(d, join([]byte{byte(c - 32)}, name))
			got, gotUsed, gotCode := impl.ReadInstr(d, join([]byte{byte(c)}, name))
			if !sameDecoder(got, plain) || gotUsed != used || gotCode != code {
				t.Errorf("the first byte %d is not as %d", c, c-32)
			}
		}
	}
	long := strings.Repeat("n", 40)
	want := decoderWith(d, 140, 11, append(slices.Clone(d.Table.Entries[1:]), aField(long, ""))...)
	checkInstr(t, d, join([]byte{95, 9}, []byte(long), []byte{0}), want, 43)
	checkInstr(t, d, join([]byte{127, 9}, []byte(long), []byte{0}), want, 43)
}

// instrRow is several instructions of which one is behind the other.
func instrRow() [][]byte {
	return [][]byte{
		{65, 'n', 1, '9'}, {192 + 21, 2, 'q', 'q'}, {128, 0}, {2}, {63, 60}, {63, 60}, {97, 'm', 0}, {1},
		join(prefixAsked(40, 5, 64), bytes.Repeat([]byte{'k'}, 40), []byte{3, 'x', 'y', 'z'}), {63, 169, 1},
		join([]byte{192 + 22}, textAsked(strings.Repeat("l", 130))),
	}
}

func TestInstrCut(t *testing.T) {
	row := instrRow()
	d := plainDecoder()
	whole := join(row...)
	ends := []int{0}
	for _, instr := range row {
		ends = append(ends, ends[len(ends)-1]+len(instr))
	}
	for n := range len(whole) + 1 {
		checkInstrAsked(t, d, whole[:n])
		at, _ := slices.BinarySearch(ends, n+1)
		if _, used, code := impl.ReadInstr(d, whole[:n]); code != impl.OK || used != ends[at-1] {
			t.Errorf("of %d bytes %d were read, code %d, want %d", n, used, code, ends[at-1])
		}
	}
	all, _, _ := impl.ReadInstr(d, whole)
	if all.Table.Added < 14 || all.Told != 4 {
		t.Fatalf("%s", toldDecoder(all))
	}
	more := numbers(18)
	for range 200 {
		e, kept := d, []byte(nil)
		for at := 0; at < len(whole); {
			n := min(1+more.below(9), len(whole)-at)
			kept = append(kept, whole[at:at+n]...)
			at += n
			behind, used, code := impl.ReadInstr(e, kept)
			if code != impl.OK {
				t.Fatalf("code %d at %d", code, at)
			}
			e, kept = behind, kept[used:]
		}
		if len(kept) != 0 || !sameDecoder(e, all) {
			t.Fatalf("%d bytes are left; %s, want %s", len(kept), toldDecoder(e), toldDecoder(all))
		}
	}
}

func TestInstrWrong(t *testing.T) {
	d := plainDecoder()
	form := bytes.Repeat([]byte{255}, 10)
	good := []byte{65, 'n', 1, '9'}
	for _, first := range []byte{255, 191, 127, 95, 63, 31} {
		b := join([]byte{first}, form[1:])
		refusesInstr(t, d, b, impl.ErrForm)
		refusesInstr(t, d, join(good, b), impl.ErrForm)
		checkInstrAsked(t, d, b[:9])
	}
	// A value's number of bytes that is none.
	for _, ahead := range [][]byte{{192}, {192 + 30}, {128}, {128 + 30}, {65, 'n'}, {65, 'N'}} {
		refusesInstr(t, d, join(ahead, []byte{127}, form[1:]), impl.ErrForm)
		checkInstr(t, d, join(ahead, []byte{127}, form[1:9]), d, 0)
	}
	// An instruction that is not whole is not looked at: neither its entry nor its field.
	for _, b := range [][]byte{{192 + 30}, {192 + 30, 1}, {192 + 30, 2, '\n'}, {128 + 30}, {128 + 30, 1}, {65, 'N'}, {65, 'N', 1}, {64}, {64, 1}, {66, 'n'}, {65, 'n', 2, 0}, {31}, {63}, {63, 255}} {
		checkInstr(t, d, b, d, 0)
		checkInstr(t, d, join([]byte{0}, b), decoderWith(d, 140, 11, append(slices.Clone(d.Table.Entries), aField("c", "3"))...), 1)
	}
	// Of two faults of one instruction: the entry ahead of the field, the field ahead of the room.
	refusesInstr(t, d, []byte{192 + 30, 1, '\n'}, impl.ErrTable)
	refusesInstr(t, d, []byte{128 + 30, 1, '\n'}, impl.ErrTable)
	refusesInstr(t, d, join([]byte{192}, textAsked(strings.Repeat("\n", 200))), impl.ErrForm)
	refusesInstr(t, d, ownInstr(aField("N", strings.Repeat("x", 200))), impl.ErrForm)
	refusesInstr(t, d, ownInstr(aField("", "")), impl.ErrForm)
	refusesInstr(t, d, ownInstr(aField("", strings.Repeat("x", 200))), impl.ErrForm)
	// Of two instructions the first.
	refusesInstr(t, d, join([]byte{3}, form), impl.ErrTable)
	refusesInstr(t, d, join(form, []byte{3}), impl.ErrForm)
	refusesInstr(t, d, []byte{65, 'N', 0, 3}, impl.ErrForm)
	refusesInstr(t, d, []byte{3, 65, 'N', 0}, impl.ErrTable)
}

func TestInstrDecoders(t *testing.T) {
	d := plainDecoder()
	for _, told := range []int{0, 1, 9, 10} {
		d.Told = told
		checkInstr(t, d, []byte{32}, decoderWith(d, 0, 10), 1)
	}
	form := bytes.Repeat([]byte{255}, 10)
	for _, told := range []int{-1, 11, math.MinInt, math.MaxInt} {
		d.Told = told
		refusesInstr(t, d, nil, impl.ErrBad)
		refusesInstr(t, d, form, impl.ErrBad)
		refusesInstr(t, d, make([]byte, 65537), impl.ErrLong)
	}
	for _, table := range wrongTables() {
		refusesInstr(t, impl.Decoder{Table: table}, nil, impl.ErrBad)
		refusesInstr(t, impl.Decoder{Table: table}, []byte{3}, impl.ErrBad)
	}
	d = plainDecoder()
	many := make([]byte, 65537)
	got, used, code := impl.ReadInstr(d, many[:65536])
	if code != impl.OK || used != 65536 || got.Table.Added != 65546 || len(got.Table.Entries) != 4 {
		t.Errorf("%s %d %d", toldDecoder(got), used, code)
	}
	refusesInstr(t, d, many, impl.ErrLong)
}

// drawnInstr is an instruction that is mostly right.
func drawnInstr(more *numbers, t impl.Table) []byte {
	f := drawnField(more)
	entry := more.below(len(t.Entries) + 1)
	if entry == len(t.Entries) && more.below(6) > 0 {
		entry = 0
	}
	switch more.below(30) {
	case 0:
		f.Value = "\n"
	case 1:
		f.Name = "N"
	case 2:
		f.Value = strings.Repeat("v", 1020+more.below(8))
	case 3:
		f.Name = strings.Repeat("n", 60+more.below(8))
	}
	switch more.below(8) {
	case 0, 1:
		return ownInstr(f)
	case 2:
		b := ownInstr(f)
		b[0] |= 32
		return b
	case 3:
		return join(prefixAsked(more.below(25), 6, 192), textAsked(f.Value))
	case 4:
		return join(prefixAsked(entry, 6, 128), textAsked(f.Value))
	case 5:
		return prefixAsked(more.below(t.Most+1+more.below(2)), 5, 32)
	}
	return prefixAsked(entry, 5, 0)
}

func TestInstrDrawn(t *testing.T) {
	more := numbers(19)
	met := map[int]int{}
	part := 0
	for range 30000 {
		d := impl.Decoder{Table: drawnTable(&more)}
		d.Told = max(0, d.Table.Added-more.below(3))
		var b []byte
		for range more.below(8) {
			b = append(b, drawnInstr(&more, d.Table)...)
		}
		switch more.below(6) {
		case 0:
			b = b[:more.below(len(b)+1)]
		case 1:
			if len(b) > 0 {
				b[more.below(len(b))] = byte(more.next())
			}
		}
		met[checkInstrAsked(t, d, b)]++
		if _, used, code := impl.ReadInstr(d, b); code == impl.OK && used < len(b) {
			part++
		}
	}
	if min(met[impl.OK], met[impl.ErrTable], met[impl.ErrForm], part) < 1000 {
		t.Errorf("codes were met so often: %v; %d times the last was not whole", met, part)
	}
}
