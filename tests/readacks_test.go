package tests

import (
	"bytes"
	"math"
	"slices"
	"testing"

	"loop.example/g00012/impl"
)

func checkAcks(t *testing.T, e impl.Encoder, b []byte, want impl.Encoder, used int) {
	t.Helper()
	got, gotUsed, code := impl.ReadAcks(e, b)
	if code != impl.OK || gotUsed != used || !sameEncoder(got, want) {
		t.Errorf("ReadAcks(.., %x) = %s %d %d, want %s %d, of %s", b[:min(len(b), 40)], toldEncoder(got), gotUsed, code, toldEncoder(want), used, toldEncoder(e))
	}
	checkAcksAsked(t, e, b)
}

func checkAcksAsked(t *testing.T, e impl.Encoder, b []byte) int {
	t.Helper()
	got, gotUsed, gotCode := impl.ReadAcks(e, b)
	want, used, code := readAcksAsked(e, b)
	if gotCode != code || gotUsed != used || !sameEncoder(got, want) {
		t.Errorf("ReadAcks(.., %x) = %s %d %d, asked %s %d %d, of %s", b[:min(len(b), 40)], toldEncoder(got), gotUsed, gotCode, toldEncoder(want), used, code, toldEncoder(e))
	}
	return code
}

func refusesAcks(t *testing.T, e impl.Encoder, b []byte, code int) {
	t.Helper()
	got, used, gotCode := impl.ReadAcks(e, b)
	if gotCode != code || used != 0 || !sameEncoder(got, impl.Encoder{}) {
		t.Errorf("ReadAcks(.., %x) = %s %d %d, want code %d alone", b[:min(len(b), 40)], toldEncoder(got), used, gotCode, code)
	}
	checkAcksAsked(t, e, b)
}

// wasRead, gaveUp and came are the instructions of the decoder.
func wasRead(stream int) []byte { return prefixAsked(stream, 7, 128) }
func gaveUp(stream int) []byte  { return prefixAsked(stream, 6, 64) }
func haveCome(n int) []byte     { return prefixAsked(n, 6, 0) }

// openEncoder has several sections of a few streams.
func openEncoder() impl.Encoder {
	return impl.Encoder{
		Table: tableOf(400, 200, 20, aField("a", "1"), aField("b", "")), Known: 10, Blocked: 3,
		Open: []impl.Ref{ref(4, 12, 8), ref(8, 9, 3), ref(4, 11, 10), ref(300, 20, 0), ref(4, 7, 6)},
	}
}

// behind is e with another Known and these of its sections.
func behindAcks(e impl.Encoder, known int, open ...impl.Ref) impl.Encoder {
	e.Known, e.Open = known, open
	return e
}

func TestAcksRead(t *testing.T) {
	e := openEncoder()
	o := e.Open
	checkAcks(t, e, nil, e, 0)
	checkAcks(t, e, []byte{132}, behindAcks(e, 12, o[1], o[2], o[3], o[4]), 1)
	checkAcks(t, e, []byte{136}, behindAcks(e, 10, o[0], o[2], o[3], o[4]), 1)
	checkAcks(t, e, []byte{255, 173, 1}, behindAcks(e, 20, o[0], o[1], o[2], o[4]), 3)
	checkAcks(t, e, []byte{132, 132}, behindAcks(e, 12, o[1], o[3], o[4]), 2)
	checkAcks(t, e, []byte{132, 132, 132}, behindAcks(e, 12, o[1], o[3]), 3)
	checkAcks(t, e, []byte{132, 132, 132, 136, 255, 173, 1}, behindAcks(e, 20), 7)
	refusesAcks(t, e, []byte{132, 132, 132, 132}, impl.ErrTable)
	for _, stream := range []int{0, 3, 5, 7, 9, 126, 127, 299, 301, maxVar} {
		refusesAcks(t, e, wasRead(stream), impl.ErrTable)
	}
	refusesAcks(t, impl.Encoder{}, []byte{128}, impl.ErrTable)
}

func TestAcksGivenUp(t *testing.T) {
	e := openEncoder()
	o := e.Open
	checkAcks(t, e, []byte{68}, behindAcks(e, 10, o[1], o[3]), 1)
	checkAcks(t, e, []byte{72}, behindAcks(e, 10, o[0], o[2], o[3], o[4]), 1)
	checkAcks(t, e, []byte{127, 237, 1}, behindAcks(e, 10, o[0], o[1], o[2], o[4]), 3)
	checkAcks(t, e, []byte{68, 68, 72, 72}, behindAcks(e, 10, o[3]), 4)
	for _, stream := range []int{0, 3, 5, 62, 63, 299, 301, maxVar} {
		checkAcks(t, e, gaveUp(stream), e, len(gaveUp(stream)))
		checkAcks(t, impl.Encoder{}, gaveUp(stream), impl.Encoder{}, len(gaveUp(stream)))
	}
	refusesAcks(t, e, []byte{68, 132}, impl.ErrTable)
}

func TestAcksCame(t *testing.T) {
	e := openEncoder()
	for n := 1; n <= 10; n++ {
		checkAcks(t, e, []byte{byte(n)}, behindAcks(e, 10+n, e.Open...), 1)
	}
	for _, n := range []int{0, 11, 12, 62, 63, 64, 1000, maxVar} {
		refusesAcks(t, e, haveCome(n), impl.ErrTable)
	}
	checkAcks(t, e, []byte{3, 7}, behindAcks(e, 20, e.Open...), 2)
	refusesAcks(t, e, []byte{3, 8}, impl.ErrTable)
	refusesAcks(t, e, []byte{10, 1}, impl.ErrTable)
	checkAcks(t, e, []byte{132, 8}, behindAcks(e, 20, e.Open[1:]...), 2)
	refusesAcks(t, e, []byte{132, 9}, impl.ErrTable)
	checkAcks(t, e, []byte{5, 132}, behindAcks(e, 15, e.Open[1:]...), 2)
	far := impl.Encoder{Table: tableOf(0, 0, maxVar-1)}
	checkAcks(t, far, haveCome(maxVar-1), behindAcks(far, maxVar-1), 10)
	refusesAcks(t, far, haveCome(maxVar), impl.ErrTable)
	refusesAcks(t, impl.Encoder{}, []byte{0}, impl.ErrTable)
	refusesAcks(t, impl.Encoder{}, []byte{1}, impl.ErrTable)
}

// Each first byte alone.
func TestAcksFirstBytes(t *testing.T) {
	e := openEncoder()
	e.Open = append(e.Open, ref(0, 1, 0), ref(63, 1, 0), ref(64, 1, 0), ref(126, 2, 0), ref(127, 3, 0))
	for c := range 256 {
		checkAcksAsked(t, e, []byte{byte(c)})
		checkAcksAsked(t, e, []byte{byte(c), 0})
		checkAcksAsked(t, e, []byte{byte(c), 1, 132})
		checkAcksAsked(t, e, []byte{132, byte(c)})
	}
}

func TestAcksCut(t *testing.T) {
	e := openEncoder()
	whole := join(haveCome(2), wasRead(300), gaveUp(300), wasRead(4), gaveUp(1000000), gaveUp(maxVar), wasRead(8))
	used := []int{0}
	for at := 0; at < len(whole); {
		_, next, code := ackAsked(e, whole, at)
		if code != impl.OK {
			t.Fatalf("code %d at %d", code, at)
		}
		at = next
		used = append(used, at)
	}
	for n := range len(whole) + 1 {
		checkAcksAsked(t, e, whole[:n])
		_, got, code := impl.ReadAcks(e, whole[:n])
		at, _ := slices.BinarySearchFunc(used, n+1, func(a, b int) int { return a - b })
		if code != impl.OK || got != used[at-1] {
			t.Errorf("of %d bytes %d were read, code %d", n, got, code)
		}
	}
	// Read piece by piece they do the same.
	all, _, _ := impl.ReadAcks(e, whole)
	var kept []byte
	for _, c := range whole {
		kept = append(kept, c)
		behind, n, _ := impl.ReadAcks(e, kept)
		e, kept = behind, kept[n:]
	}
	if len(kept) != 0 || !sameEncoder(e, all) {
		t.Errorf("%d bytes are left; %s, want %s", len(kept), toldEncoder(e), toldEncoder(all))
	}
}

func TestAcksWrong(t *testing.T) {
	e := openEncoder()
	form := join([]byte{255}, bytes.Repeat([]byte{255}, 9))
	refusesAcks(t, e, form, impl.ErrForm)
	refusesAcks(t, e, join([]byte{132}, form), impl.ErrForm)
	refusesAcks(t, e, join([]byte{127}, form[1:]), impl.ErrForm)
	refusesAcks(t, e, join([]byte{63}, form[1:]), impl.ErrForm)
	checkAcks(t, e, form[:9], e, 0)
	checkAcks(t, e, join([]byte{1}, form[:9]), behindAcks(e, 11, e.Open...), 1)
	// The first that is wrong tells, from the left.
	refusesAcks(t, e, join([]byte{0}, form), impl.ErrTable)
	refusesAcks(t, e, join(form, []byte{0}), impl.ErrForm)
	refusesAcks(t, e, []byte{132, 0, 132}, impl.ErrTable)
	refusesAcks(t, e, []byte{2, 129, 255}, impl.ErrTable)
	for _, bad := range []impl.Encoder{{Known: 1}, {Known: -1}, {Blocked: 65}, {Blocked: -1}, {Open: []impl.Ref{{}}}, {Table: impl.Table{Cap: 1}}, {Known: math.MinInt}} {
		refusesAcks(t, bad, nil, impl.ErrBad)
		refusesAcks(t, bad, []byte{0}, impl.ErrBad)
		refusesAcks(t, bad, form, impl.ErrBad)
		refusesAcks(t, bad, make([]byte, 65537), impl.ErrLong)
	}
	many := bytes.Repeat([]byte{72}, 65537)
	checkAcks(t, e, many[:65536], behindAcks(e, 10, e.Open[0], e.Open[2], e.Open[3], e.Open[4]), 65536)
	refusesAcks(t, e, many, impl.ErrLong)
}

// drawnTable is valid.
func drawnTable(more *numbers) impl.Table {
	table := impl.Table{Most: more.below(4097)}
	if more.below(3) > 0 {
		table.Most = more.below(500)
	}
	table.Cap = table.Most
	if more.below(3) == 0 {
		table.Cap = more.below(table.Most + 1)
	}
	if more.below(3) > 0 {
		table.Added = []int{1, 60, 300, maxVar - 70}[more.below(4)]
	}
	for range more.below(40) {
		if behind, code := tableAddAsked(table, drawnField(more)); code == impl.OK {
			table = behind
		}
	}
	return table
}

// drawnEncoder is valid, and mostly has entries and sections.
func drawnEncoder(more *numbers) impl.Encoder {
	e := impl.Encoder{Table: drawnTable(more), Blocked: more.below(5)}
	added := e.Table.Added
	e.Known = max(0, added-more.below(len(e.Table.Entries)+3))
	if added == 0 {
		return e
	}
	count := more.below(6)
	if more.below(8) == 0 {
		count = 62 + more.below(3)
	}
	for range count {
		need := max(1, added-more.below(len(e.Table.Entries)+2))
		least := max(0, need-1-more.below(5))
		e.Open = append(e.Open, ref(4*more.below(6), need, least))
	}
	return e
}

func drawnAcks(more *numbers, e impl.Encoder) []byte {
	var b []byte
	for range more.below(6) {
		stream := 4 * more.below(7)
		if len(e.Open) > 0 && more.below(4) > 0 {
			stream = e.Open[more.below(len(e.Open))].Stream
		}
		switch more.below(4) {
		case 0, 1:
			b = append(b, wasRead(stream)...)
		case 2:
			b = append(b, gaveUp(stream)...)
		case 3:
			b = append(b, haveCome(1+more.below(3))...)
		}
	}
	switch more.below(12) {
	case 0:
		b = append(b, more.bytes(more.below(12))...)
	case 1:
		b = b[:more.below(len(b)+1)]
	case 2:
		b = join(b, prefixAsked(more.variable(), 6, 64)[:1])
	case 3:
		b = join(b, bytes.Repeat([]byte{255}, 9+more.below(3)))
	}
	return b
}

func TestAcksDrawn(t *testing.T) {
	more := numbers(17)
	met := map[int]int{}
	for range 30000 {
		e := drawnEncoder(&more)
		met[checkAcksAsked(t, e, drawnAcks(&more, e))]++
	}
	if min(met[impl.OK], met[impl.ErrTable]) < 3000 || met[impl.ErrForm] < 100 {
		t.Errorf("codes were met so often: %v", met)
	}
}
