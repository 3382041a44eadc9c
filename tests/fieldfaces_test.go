package tests

import (
	"slices"
	"strings"
	"testing"

	"loop.example/g00012/impl"
)

// ownLine and ownInstr tell a field with its name, whether it is valid or not.
func ownLine(f impl.Field) []byte {
	return join(prefixAsked(len(f.Name), 5, 32), []byte(f.Name), textAsked(f.Value))
}

func ownInstr(f impl.Field) []byte {
	return join(prefixAsked(len(f.Name), 5, 64), []byte(f.Name), textAsked(f.Value))
}

func wideTable(entries ...impl.Field) impl.Table {
	return tableOf(4096, 4096, len(entries), entries...)
}

// checkFaces hands a field in and has it read wherever one can stand: it is taken everywhere or nowhere.
func checkFaces(t *testing.T, f impl.Field, ok bool) {
	t.Helper()
	handed, read := impl.ErrBad, impl.ErrForm
	if ok {
		handed, read = impl.OK, impl.OK
	}
	if _, code := impl.TableAdd(wideTable(), f); code != handed {
		t.Errorf("TableAdd of %s: %d", toldField(f), code)
	}
	for _, table := range []impl.Table{wideTable(f), wideTable(aField("a", ""), f), wideTable(f, aField("a", ""))} {
		if got := impl.TableOK(table); got != ok {
			t.Errorf("TableOK with %s: %v", toldField(f), got)
		}
	}
	for _, list := range [][]impl.Field{{f}, {aField("a", ""), f}, {f, aField("a", "")}} {
		if _, _, _, code := impl.EncodeSection(impl.Encoder{}, 0, list); code != handed {
			t.Errorf("EncodeSection of %s: %d", toldField(f), code)
		}
	}
	if d, _, code := impl.ReadInstr(impl.Decoder{Table: wideTable()}, ownInstr(f)); code != read || ok && d.Table.Entries[0] != f {
		t.Errorf("ReadInstr of %s: %+v %d", toldField(f), d, code)
	}
	if list, _, code := impl.DecodeSection(impl.Decoder{}, join([]byte{0}, ownLine(f))); code != read || ok && !slices.Equal(list, []impl.Field{f}) {
		t.Errorf("DecodeSection of %s: %d", toldField(f), code)
	}
}

// checkValueFaces has a value read behind a name that one of the tables tells.
func checkValueFaces(t *testing.T, value string, ok bool) {
	t.Helper()
	checkFaces(t, aField("a", value), ok)
	read := impl.ErrForm
	if ok {
		read = impl.OK
	}
	d := impl.Decoder{Table: wideTable(aField("q", "1"))}
	for _, c := range []struct {
		first byte
		name  string
	}{{192 + 21, "etag"}, {128, "q"}} {
		behind, _, code := impl.ReadInstr(d, join([]byte{c.first}, textAsked(value)))
		if code != read || ok && behind.Table.Entries[1] != aField(c.name, value) {
			t.Errorf("ReadInstr of %s %.40q: %d", c.name, value, code)
		}
	}
	for _, c := range []struct {
		first byte
		name  string
	}{{96 + 21, "etag"}, {64, "q"}} {
		list, _, code := impl.DecodeSection(d, join([]byte{1, c.first}, textAsked(value)))
		if code != read || ok && !slices.Equal(list, []impl.Field{aField(c.name, value)}) {
			t.Errorf("DecodeSection of %s %.40q: %d", c.name, value, code)
		}
	}
}

func TestFieldNames(t *testing.T) {
	for c := range 256 {
		b := string([]byte{byte(c)})
		ok := c >= 33 && c <= 126 && !(c >= 65 && c <= 90)
		for _, name := range []string{b, b + "x", "x" + b, "x" + b + "y", strings.Repeat("x", 63) + b, b + strings.Repeat("x", 63)} {
			checkFaces(t, aField(name, ""), ok)
			checkFaces(t, aField(name, "v"), ok)
		}
	}
	for n := range 67 {
		checkFaces(t, aField(strings.Repeat("n", n), "v"), n >= 1 && n <= 64)
	}
	for _, name := range []string{"é", "a\u00a0", "日本", "\xc3", "\xe2\x82", "\xed\xa0\x80", "\xf4\x90\x80\x80", "\u0161", "\uff41", "\ufffd", "\x80", "a\xffb", "\xc1\xa1"} {
		checkFaces(t, aField(name, "v"), false)
	}
	checkFaces(t, aField(nameBytes[:64], ""), true)
	checkFaces(t, aField(nameBytes[len(nameBytes)-64:], ""), true)
}

func TestFieldValues(t *testing.T) {
	for c := range 256 {
		b := string([]byte{byte(c)})
		ok := c != 0 && c != 10 && c != 13
		for _, value := range []string{b, b + "x", "x" + b, "x" + b + "y", strings.Repeat("x", 1023) + b, b + strings.Repeat("x", 1023)} {
			checkValueFaces(t, value, ok)
		}
	}
	for _, n := range []int{0, 1, 126, 127, 128, 1023, 1024, 1025, 1026, 2000} {
		checkValueFaces(t, strings.Repeat("v", n), n <= 1024)
	}
	for _, value := range []string{"é", " ", "\xff", "\xc3", "\xe2\x82", "\u010a", "\u010d", "\u0100", "\u2028", "日本", "\xed\xa0\x80", "\xf4\x90\x80\x80", "\xff\xfe\x01", "A Z"} {
		checkValueFaces(t, value, true)
		checkValueFaces(t, value+"\n", false)
		checkValueFaces(t, value+"\r"+value, false)
		checkValueFaces(t, "\x00"+value, false)
	}
	checkValueFaces(t, strings.Repeat("é", 512), true)
	checkValueFaces(t, strings.Repeat("é", 512)+"x", false)
}
