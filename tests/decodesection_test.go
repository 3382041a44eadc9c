package tests

import (
	"bytes"
	"math"
	"slices"
	"strings"
	"testing"

	"loop.example/g00012/impl"
)

func checkDecode(t *testing.T, d impl.Decoder, b []byte, want []impl.Field, need int) {
	t.Helper()
	got, gotNeed, code := impl.DecodeSection(d, b)
	if code != impl.OK || gotNeed != need || !slices.Equal(got, want) {
		t.Errorf("DecodeSection(.., %.40x) of %d bytes = %s %d %d, want %s %d, of %s", b, len(b), toldList(got), gotNeed, code, toldList(want), need, toldDecoder(d))
	}
	checkDecodeAsked(t, d, b)
}

func checkDecodeAsked(t *testing.T, d impl.Decoder, b []byte) int {
	t.Helper()
	got, gotNeed, gotCode := impl.DecodeSection(d, b)
	want, need, code := decodeAsked(d, b)
	if gotCode != code || gotNeed != need || !slices.Equal(got, want) {
		t.Errorf("DecodeSection(.., %.40x) of %d bytes = %s %d %d, asked %s %d %d, of %s", b, len(b), toldList(got), gotNeed, gotCode, toldList(want), need, code, toldDecoder(d))
	}
	return code
}

func refusesDecode(t *testing.T, d impl.Decoder, b []byte, code int) {
	t.Helper()
	got, need, gotCode := impl.DecodeSection(d, b)
	if gotCode != code || need != 0 || len(got) != 0 {
		t.Errorf("DecodeSection(.., %.40x) of %d bytes = %s %d %d, want code %d alone", b, len(b), toldList(got), need, gotCode, code)
	}
	checkDecodeAsked(t, d, b)
}

func TestDecodeRows(t *testing.T) {
	d := plainDecoder() // 7 to 9: a 1, b 2, c 3
	for i, f := range fixedAsked() {
		for _, need := range []int{0, 1, 10} {
			checkDecode(t, d, []byte{byte(need), byte(192 + i)}, []impl.Field{f}, need)
			checkDecode(t, d, []byte{byte(need), byte(96 + i), 2, '!', 'Z'}, pairsOf(f.Name, "!Z"), need)
			checkDecode(t, d, []byte{byte(need), byte(96 + i), 0}, pairsOf(f.Name, ""), need)
		}
	}
	checkDecode(t, d, []byte{10, 128, 129, 130}, pairsOf("c", "3", "b", "2", "a", "1"), 10)
	checkDecode(t, d, []byte{9, 128, 129}, pairsOf("b", "2", "a", "1"), 9)
	checkDecode(t, d, []byte{8, 128}, pairsOf("a", "1"), 8)
	checkDecode(t, d, []byte{10, 64, 1, 'x', 65, 0, 66, 2, 'y', 'z'}, pairsOf("c", "x", "b", "", "a", "yz"), 10)
	checkDecode(t, d, []byte{0, 33, 'n', 0, 34, 'n', 'm', 1, 'v'}, pairsOf("n", "", "nm", "v"), 0)
	checkDecode(t, d, []byte{0}, nil, 0)
	checkDecode(t, d, []byte{10}, nil, 10)
	long := strings.Repeat("n", 64)
	checkDecode(t, d, join([]byte{0, 63, 33}, []byte(long), []byte{0}), pairsOf(long, ""), 0)
	// Longer forms of the numbers.
	refusesDecode(t, d, []byte{0, 255, 128, 0}, impl.ErrTable)
	far := impl.Decoder{Table: tableOf(4096, 4096, 1000, slices.Repeat([]impl.Field{aField("f", "")}, 100)...)}
	checkDecode(t, far, join(prefixAsked(1000, 8, 0), []byte{128, 190, 191, 0, 191, 128, 0, 191, 36}), pairsOf("f", "", "f", "", "f", "", "f", "", "f", ""), 1000)
	refusesDecode(t, far, join(prefixAsked(1000, 8, 0), []byte{191, 37}), impl.ErrTable)
}

func TestDecodeNeed(t *testing.T) {
	d := plainDecoder()
	checkDecode(t, d, []byte{10, 193}, pairsOf(":method", "GET"), 10)
	refusesDecode(t, d, []byte{11, 193}, impl.ErrBlocked)
	refusesDecode(t, d, []byte{11}, impl.ErrBlocked)
	refusesDecode(t, d, prefixAsked(maxVar, 8, 0), impl.ErrBlocked)
	// Ahead of all that stands behind it.
	for _, b := range [][]byte{{0}, {31}, {255}, {216}, {33}, {33, 'N', 0}} {
		refusesDecode(t, d, join([]byte{11}, b), impl.ErrBlocked)
		refusesDecode(t, d, join(prefixAsked(maxVar, 8, 0), b), impl.ErrBlocked)
	}
	form := bytes.Repeat([]byte{255}, 10)
	refusesDecode(t, d, nil, impl.ErrShort)
	refusesDecode(t, d, []byte{255}, impl.ErrShort)
	refusesDecode(t, d, []byte{255, 128}, impl.ErrShort)
	refusesDecode(t, d, form[:9], impl.ErrShort)
	refusesDecode(t, d, form, impl.ErrForm)
	last := impl.Decoder{Table: tableOf(100, 100, maxVar-1, aField("a", "1"))}
	checkDecode(t, last, join(prefixAsked(maxVar-1, 8, 0), []byte{128}), pairsOf("a", "1"), maxVar-1)
	refusesDecode(t, last, join(prefixAsked(maxVar, 8, 0), []byte{128}), impl.ErrBlocked)
}

func TestDecodeEntries(t *testing.T) {
	d := plainDecoder()
	for need := range 11 {
		for n := range 64 {
			checkDecodeAsked(t, d, []byte{byte(need), byte(128 + n)})
			checkDecodeAsked(t, d, []byte{byte(need), byte(192 + n)})
			if n < 32 {
				checkDecodeAsked(t, d, []byte{byte(need), byte(64 + n), 1, 'v'})
				checkDecodeAsked(t, d, []byte{byte(need), byte(96 + n), 1, 'v'})
			}
		}
		for _, bits := range []int{5, 6} {
			for _, v := range []int{need, need + 1, 1000, maxVar - 1, maxVar} {
				checkDecodeAsked(t, d, join([]byte{byte(need)}, prefixAsked(v, bits, 64+64*(bits-5)), []byte{0}))
				checkDecodeAsked(t, d, join([]byte{byte(need)}, prefixAsked(v, bits, 96+96*(bits-5)), []byte{0}))
			}
		}
	}
	refusesDecode(t, d, []byte{10, 131}, impl.ErrTable)
	refusesDecode(t, d, []byte{7, 128}, impl.ErrTable)
	refusesDecode(t, d, []byte{0, 128}, impl.ErrTable)
	refusesDecode(t, d, []byte{0, 64, 0}, impl.ErrTable)
	refusesDecode(t, d, []byte{10, 67, 0}, impl.ErrTable)
	refusesDecode(t, d, []byte{10, 138}, impl.ErrTable)
	refusesDecode(t, d, []byte{10, 139}, impl.ErrTable)
	refusesDecode(t, d, []byte{0, 216}, impl.ErrTable)
	refusesDecode(t, d, []byte{0, 120, 0}, impl.ErrTable)
	refusesDecode(t, impl.Decoder{}, []byte{0, 128}, impl.ErrTable)
	// An entry that isn't there comes ahead of the value that stands behind it, whatever is wrong with that.
	for _, first := range []byte{64 + 5, 96 + 24, 96 + 30} {
		for _, value := range [][]byte{nil, {127}, {1}, {1, '\n'}, bytes.Repeat([]byte{255}, 12), prefixAsked(1025, 7, 0)} {
			refusesDecode(t, d, join([]byte{10, first}, value), impl.ErrTable)
		}
	}
}

func TestDecodeFirstBytes(t *testing.T) {
	d := plainDecoder()
	for c := range 256 {
		for _, behind := range [][]byte{nil, {0}, {1}, {1, 'v'}, []byte("nnnnnnnnnnnnnnnnnnnnnnnnnnnnnnnn\x01v"), {0, 0, 0}, {128}, {255}} {
			checkDecodeAsked(t, d, join([]byte{10, byte(c)}, behind))
			checkDecodeAsked(t, d, join([]byte{10, 193, byte(c)}, behind))
		}
		if c < 32 {
			refusesDecode(t, d, []byte{0, byte(c)}, impl.ErrForm)
			refusesDecode(t, d, []byte{0, 193, byte(c)}, impl.ErrForm)
			refusesDecode(t, d, []byte{0, byte(c), 216}, impl.ErrForm)
		}
	}
}

func TestDecodeTooLong(t *testing.T) {
	d := plainDecoder()
	for _, n := range []int{0, 1, 31, 63, 64, 65, 66, 5000, maxVar} {
		told := join([]byte{0}, prefixAsked(n, 5, 32))
		there := bytes.Repeat([]byte{'n'}, min(n, 70))
		for _, b := range [][]byte{told, join(told, there), join(told, there, []byte{0}), join(told, there, []byte{1, 'v'}), join(told, there, []byte{1})} {
			if n > 64 {
				refusesDecode(t, d, b, impl.ErrForm)
			} else {
				checkDecodeAsked(t, d, b)
			}
		}
	}
	for _, ahead := range [][]byte{{10, 96 + 21}, {10, 64}, {10, 33, 'n'}, {10, 33, 'N'}, {10, 32}} {
		for _, n := range []int{0, 1, 126, 127, 1023, 1024, 1025, 1026, 5000, maxVar} {
			told := join(ahead, prefixAsked(n, 7, 0))
			if n > 1024 {
				refusesDecode(t, d, told, impl.ErrForm)
				refusesDecode(t, d, join(told, bytes.Repeat([]byte{'v'}, 1030)), impl.ErrForm)
				continue
			}
			checkDecodeAsked(t, d, told)
			checkDecodeAsked(t, d, join(told, bytes.Repeat([]byte{'v'}, n)))
			checkDecodeAsked(t, d, join(told, bytes.Repeat([]byte{'v'}, max(n-1, 0))))
		}
		refusesDecode(t, d, join(ahead, bytes.Repeat([]byte{255}, 12)), impl.ErrForm)
	}
}

func TestDecodeCut(t *testing.T) {
	d := plainDecoder()
	lines := [][]byte{{10}, {193}, {128}, {96 + 21, 1, 'q'}, {65, 2, 'x', 'y'}, {34, 'n', 'm', 1, 'v'}, join(prefixAsked(40, 5, 32), bytes.Repeat([]byte{'k'}, 40), textAsked(strings.Repeat("l", 130))), {129}}
	whole := join(lines...)
	ends := []int{}
	for i := range lines {
		ends = append(ends, len(join(lines[:i+1]...)))
	}
	for n := range len(whole) + 1 {
		at, found := slices.BinarySearch(ends, n)
		if found {
			if got, _, code := impl.DecodeSection(d, whole[:n]); code != impl.OK || len(got) != at {
				t.Errorf("of %d bytes: %d fields, code %d", n, len(got), code)
			}
			checkDecodeAsked(t, d, whole[:n])
		} else {
			refusesDecode(t, d, whole[:n], impl.ErrShort)
		}
	}
}

func TestDecodeMany(t *testing.T) {
	d := plainDecoder()
	for _, line := range [][]byte{{193}, {128}, {96 + 21, 1, 'q'}, {65, 0}, {33, 'n', 0}} {
		b := join([]byte{10}, bytes.Repeat(line, 63))
		for n, want := range []int{63, 64} {
			got, _, code := impl.DecodeSection(d, join(b, bytes.Repeat(line, n)))
			if code != impl.OK || len(got) != want {
				t.Errorf("%d fields, code %d", len(got), code)
			}
			checkDecodeAsked(t, d, join(b, bytes.Repeat(line, n)))
		}
		full := join(b, line)
		refusesDecode(t, d, join(full, line), impl.ErrForm)
		// All of the field is read first.
		refusesDecode(t, d, join(full, []byte{31}), impl.ErrForm)
		refusesDecode(t, d, join(full, []byte{255}), impl.ErrShort)
		refusesDecode(t, d, join(full, []byte{33, 'n', 1}), impl.ErrShort)
		refusesDecode(t, d, join(full, []byte{216}), impl.ErrTable)
		refusesDecode(t, d, join(full, []byte{140}), impl.ErrTable)
		refusesDecode(t, d, join(full, []byte{33, 'N', 0}), impl.ErrForm)
		refusesDecode(t, d, join(full, []byte{193, 216}), impl.ErrForm)
	}
}

// longBody are bytes of a section without need, which are right.
func longBody(n int) []byte {
	var b []byte
	for _, f := range sectionOf(n) {
		b = append(b, ownLine(f)...)
	}
	return b
}

func TestDecodeLongest(t *testing.T) {
	d := plainDecoder()
	b := join([]byte{0}, longBody(16383))
	if len(b) != 16384 {
		t.Fatalf("%d bytes", len(b))
	}
	checkDecode(t, d, b, sectionOf(16383), 0)
	refusesDecode(t, d, join([]byte{0}, longBody(16384)), impl.ErrForm)
	refusesDecode(t, d, join([]byte{11}, longBody(16384)), impl.ErrForm)
	refusesDecode(t, d, join([]byte{11}, longBody(16383)), impl.ErrBlocked)
	refusesDecode(t, d, join([]byte{0, 216}, longBody(16382)), impl.ErrTable)
	refusesDecode(t, d, join([]byte{0, 216}, longBody(16383)), impl.ErrForm)
	refusesDecode(t, d, join([]byte{0}, make([]byte, 65535)), impl.ErrForm)
	refusesDecode(t, d, join([]byte{0}, make([]byte, 65536)), impl.ErrLong)
	refusesDecode(t, d, bytes.Repeat([]byte{255}, 65537), impl.ErrLong)
	d.Told = -1
	refusesDecode(t, d, join([]byte{0}, longBody(16384)), impl.ErrBad)
	refusesDecode(t, d, make([]byte, 65537), impl.ErrLong)
}

func TestDecodeDecoders(t *testing.T) {
	d := plainDecoder()
	for _, told := range []int{0, 1, 9, 10} {
		d.Told = told
		checkDecode(t, d, []byte{10, 128}, pairsOf("c", "3"), 10)
	}
	var wrong []impl.Decoder
	for _, told := range []int{-1, 11, math.MinInt, math.MaxInt} {
		d.Told = told
		wrong = append(wrong, d)
	}
	for _, table := range wrongTables() {
		wrong = append(wrong, impl.Decoder{Table: table})
	}
	for _, d := range wrong {
		refusesDecode(t, d, []byte{0}, impl.ErrBad)
		refusesDecode(t, d, []byte{10, 128}, impl.ErrBad)
		refusesDecode(t, d, []byte{11, 31}, impl.ErrBad)
		refusesDecode(t, d, []byte{0, 31}, impl.ErrBad)
		// The code of need itself comes ahead of all.
		refusesDecode(t, d, nil, impl.ErrShort)
		refusesDecode(t, d, []byte{255}, impl.ErrShort)
		refusesDecode(t, d, bytes.Repeat([]byte{255}, 10), impl.ErrForm)
	}
}

// drawnLine is a line of a section that is mostly right.
func drawnLine(more *numbers, t impl.Table, need int) []byte {
	f := drawnField(more)
	entry := 0
	if there := need - oldestOf(t); there > 0 {
		entry = more.below(there)
	}
	switch more.below(60) {
	case 0:
		f.Value = "\n"
	case 1:
		f.Name = "N"
	case 2:
		f.Value = strings.Repeat("v", 1020+more.below(8))
	case 3:
		f.Name = strings.Repeat("n", 60+more.below(8))
	case 4:
		entry = more.below(len(t.Entries) + 3)
	case 5:
		return []byte{byte(more.below(40))}
	}
	if need <= oldestOf(t) && more.below(10) > 0 {
		return ownLine(f)
	}
	switch more.below(5) {
	case 0:
		return prefixAsked(more.below(24), 6, 192)
	case 1:
		return prefixAsked(entry, 6, 128)
	case 2:
		return join(prefixAsked(more.below(24), 5, 96), textAsked(f.Value))
	case 3:
		return join(prefixAsked(entry, 5, 64), textAsked(f.Value))
	}
	return ownLine(f)
}

func TestDecodeDrawn(t *testing.T) {
	more := numbers(20)
	met := map[int]int{}
	for range 30000 {
		d := impl.Decoder{Table: drawnTable(&more)}
		need := max(0, d.Table.Added-more.below(5)+more.below(2))
		b := prefixAsked(need, 8, 0)
		for range more.below(8) {
			b = append(b, drawnLine(&more, d.Table, need)...)
		}
		switch more.below(8) {
		case 0:
			b = b[:more.below(len(b)+1)]
		case 1:
			b[more.below(len(b))] = byte(more.next())
		}
		met[checkDecodeAsked(t, d, b)]++
	}
	if min(met[impl.OK], met[impl.ErrTable], met[impl.ErrForm], met[impl.ErrShort], met[impl.ErrBlocked]) < 700 {
		t.Errorf("codes were met so often: %v", met)
	}
}
