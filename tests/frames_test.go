package tests

import (
	"bytes"
	"fmt"
	"math"
	"slices"
	"strings"
	"testing"

	"loop.example/g00012/impl"
)

func TestFrameLimits(t *testing.T) {
	for i, pair := range [][2]int{
		{impl.MaxFrames, 256}, {impl.MaxRanges, 64}, {impl.MaxReason, 200}, {impl.MaxStreams, 1 << 60},
		{impl.FPadding, 0}, {impl.FPing, 1}, {impl.FAck, 2}, {impl.FReset, 4}, {impl.FStop, 5}, {impl.FCrypto, 6},
		{impl.FNewToken, 7}, {impl.FStream, 8}, {impl.FMaxData, 16}, {impl.FMaxStreamData, 17}, {impl.FMaxStreams, 18},
		{impl.FDataBlocked, 20}, {impl.FStreamBlocked, 21}, {impl.FStreamsBlocked, 22}, {impl.FNewId, 24},
		{impl.FRetireId, 25}, {impl.FChallenge, 26}, {impl.FResponse, 27}, {impl.FClose, 28}, {impl.FAppClose, 29},
		{impl.FDone, 30}, {impl.FDatagram, 48},
	} {
		if pair[0] != pair[1] {
			t.Errorf("constant %d is %d, want %d", i, pair[0], pair[1])
		}
	}
}

// kindRow is a line of the chapter's table: which fields a kind has (Fin is F, Data D, Token T, Ranges R),
// how many bytes of Data, and which of its fields stand as n behind the first byte.
type kindRow struct {
	kind        int
	fields      string
	least, most int
	numbers     string
}

var kindRows = []kindRow{
	{0, "A", 0, 0, ""},
	{1, "", 0, 0, ""},
	{2, "AR", 0, 0, ""},
	{4, "ABC", 0, 0, "ABC"},
	{5, "AB", 0, 0, "AB"},
	{6, "AD", 0, 1500, "A"},
	{7, "D", 1, 64, ""},
	{8, "ABDF", 0, 1500, "AB"},
	{16, "A", 0, 0, "A"},
	{17, "AB", 0, 0, "AB"},
	{18, "AB", 0, 0, "A"},
	{20, "A", 0, 0, "A"},
	{21, "AB", 0, 0, "AB"},
	{22, "AB", 0, 0, "A"},
	{24, "ABDT", 1, 8, "AB"},
	{25, "A", 0, 0, "A"},
	{26, "D", 8, 8, ""},
	{27, "D", 8, 8, ""},
	{28, "ABD", 0, 200, "AB"},
	{29, "AD", 0, 200, "A"},
	{30, "", 0, 0, ""},
	{48, "D", 0, 1500, ""},
}

func rowOfKind(kind int) (kindRow, bool) {
	for _, row := range kindRows {
		if row.kind == kind {
			return row, true
		}
	}
	return kindRow{}, false
}

func rangesOKAsked(list []impl.Range) bool {
	if len(list) > 64 {
		return false
	}
	for i, r := range list {
		if !inRange(r.Lo, 0, maxVar) || !inRange(r.Hi, 0, maxVar) || r.Lo > r.Hi {
			return false
		}
		if i > 0 && r.Lo-1 <= list[i-1].Hi {
			return false
		}
	}
	return true
}

// frameOKAsked is the chapter's rule of a valid frame, word by word.
func frameOKAsked(f impl.Frame) bool {
	row, ok := rowOfKind(f.Kind)
	if !ok {
		return false
	}
	there := map[string]bool{
		"A": f.A != 0, "B": f.B != 0, "C": f.C != 0, "F": f.Fin,
		"D": len(f.Data) > 0, "T": len(f.Token) > 0, "R": len(f.Ranges) > 0,
	}
	for field, set := range there {
		if set && !strings.Contains(row.fields, field) {
			return false
		}
	}
	if !inRange(f.A, 0, maxVar) || !inRange(f.B, 0, maxVar) || !inRange(f.C, 0, maxVar) {
		return false
	}
	if !inRange(len(f.Data), row.least, row.most) {
		return false
	}
	switch f.Kind {
	case 0:
		return inRange(f.A, 1, 1500)
	case 2:
		return len(f.Ranges) >= 1 && rangesOKAsked(f.Ranges)
	case 6:
		return f.A+len(f.Data) <= maxVar
	case 8:
		return f.B+len(f.Data) <= maxVar
	case 18, 22:
		return f.A <= 1<<60 && f.B <= 1
	case 24:
		return f.B <= f.A && len(f.Token) == 8
	}
	return true
}

// countAhead are counted bytes.
func countAhead(list []byte) []byte { return join(varBytes(len(list)), list) }

func ackBytesAsked(f impl.Frame) []byte {
	top := len(f.Ranges) - 1
	high := f.Ranges[top]
	out := join([]byte{2}, varBytes(high.Hi), varBytes(f.A), varBytes(top), varBytes(high.Hi-high.Lo+1-1))
	for i := top - 1; i >= 0; i-- {
		r, above := f.Ranges[i], f.Ranges[i+1]
		between := above.Lo - 1 - r.Hi
		out = join(out, varBytes(between-1), varBytes(r.Hi-r.Lo+1-1))
	}
	return out
}

// frameBytesAsked are the bytes of a valid frame by the table's words.
func frameBytesAsked(f impl.Frame) []byte {
	row, _ := rowOfKind(f.Kind)
	first := f.Kind
	numbers := row.numbers
	switch f.Kind {
	case 0:
		return zeroes(f.A)
	case 2:
		return ackBytesAsked(f)
	case 8:
		first = 10
		if f.B != 0 {
			first += 4
		} else {
			numbers = "A"
		}
		if f.Fin {
			first++
		}
	case 18, 22:
		first += f.B
	case 48:
		first = 49
	}
	out := []byte{byte(first)}
	for _, field := range numbers {
		out = join(out, varBytes(map[rune]int{'A': f.A, 'B': f.B, 'C': f.C}[field]))
	}
	switch {
	case f.Kind == 24:
		return join(out, lengthAhead(f.Data), f.Token)
	case f.Kind == 26 || f.Kind == 27:
		return join(out, f.Data)
	case strings.Contains(row.fields, "D"):
		return join(out, countAhead(f.Data))
	}
	return out
}

func sameFrame(a, b impl.Frame) bool {
	return a.Kind == b.Kind && a.A == b.A && a.B == b.B && a.C == b.C && a.Fin == b.Fin &&
		bytes.Equal(a.Data, b.Data) && bytes.Equal(a.Token, b.Token) && slices.Equal(a.Ranges, b.Ranges)
}

// told is a frame in a failure's words, without its many bytes.
func told(f impl.Frame) string {
	return fmt.Sprintf("kind %d, A %d, B %d, C %d, Fin %v, %d of Data, %d of Token, ranges %v", f.Kind, f.A, f.B, f.C, f.Fin, len(f.Data), len(f.Token), f.Ranges)
}

func checkFrameBytes(t *testing.T, f impl.Frame, want []byte, code int) {
	t.Helper()
	if got := impl.FrameOK(f); got != (code == impl.OK) {
		t.Errorf("FrameOK(%s) = %v", told(f), got)
	}
	got, gotCode := impl.FrameBytes(f)
	if gotCode != code || !bytes.Equal(got, want) {
		t.Errorf("FrameBytes(%s) = %x %d, want %x %d", told(f), got, gotCode, want, code)
	}
}

func checkFrameAsked(t *testing.T, f impl.Frame) {
	t.Helper()
	if frameOKAsked(f) {
		checkFrameBytes(t, f, frameBytesAsked(f), impl.OK)
	} else {
		checkFrameBytes(t, f, nil, impl.ErrBad)
	}
}

func checkReadFrame(t *testing.T, b []byte, at int, want impl.Frame, next, code int) {
	t.Helper()
	f, gotNext, gotCode := impl.ReadFrame(b, at)
	if !sameFrame(f, want) || gotNext != next || gotCode != code {
		t.Errorf("ReadFrame(%d bytes %x.., %d) = %s, %d, %d, want %s, %d, %d", len(b), b[:min(len(b), 40)], at, told(f), gotNext, gotCode, told(want), next, code)
	}
}

func refusesFrame(t *testing.T, b []byte, at, code int) {
	t.Helper()
	checkReadFrame(t, b, at, impl.Frame{}, 0, code)
}

// plainFrames has an ordinary frame of every kind, with its bytes written out.
func plainFrames() []struct {
	f impl.Frame
	b []byte
} {
	return []struct {
		f impl.Frame
		b []byte
	}{
		{impl.Frame{Kind: 0, A: 5}, []byte{0, 0, 0, 0, 0}},
		{impl.Frame{Kind: 1}, []byte{1}},
		{impl.Frame{Kind: 2, A: 70, Ranges: []impl.Range{{Lo: 3, Hi: 3}, {Lo: 6, Hi: 9}, {Lo: 100, Hi: 200}}}, []byte{2, 64, 200, 64, 70, 2, 64, 100, 64, 89, 3, 1, 0}},
		{impl.Frame{Kind: 2, Ranges: []impl.Range{{Lo: 0, Hi: 0}}}, []byte{2, 0, 0, 0, 0}},
		{impl.Frame{Kind: 4, A: 1, B: 300, C: 70000}, []byte{4, 1, 65, 44, 128, 1, 17, 112}},
		{impl.Frame{Kind: 5, A: 9, B: 8}, []byte{5, 9, 8}},
		{impl.Frame{Kind: 6, A: 64, Data: []byte{7, 6, 5}}, []byte{6, 64, 64, 3, 7, 6, 5}},
		{impl.Frame{Kind: 7, Data: []byte{1, 2}}, []byte{7, 2, 1, 2}},
		{impl.Frame{Kind: 8, A: 3, Data: []byte{9}}, []byte{10, 3, 1, 9}},
		{impl.Frame{Kind: 8, A: 3, Data: []byte{9}, Fin: true}, []byte{11, 3, 1, 9}},
		{impl.Frame{Kind: 8, A: 3, B: 2, Data: []byte{9}}, []byte{14, 3, 2, 1, 9}},
		{impl.Frame{Kind: 8, A: 3, B: 2, Fin: true}, []byte{15, 3, 2, 0}},
		{impl.Frame{Kind: 16, A: 16383}, []byte{16, 127, 255}},
		{impl.Frame{Kind: 17, A: 1, B: 2}, []byte{17, 1, 2}},
		{impl.Frame{Kind: 18, A: 7}, []byte{18, 7}},
		{impl.Frame{Kind: 18, A: 7, B: 1}, []byte{19, 7}},
		{impl.Frame{Kind: 20, A: 63}, []byte{20, 63}},
		{impl.Frame{Kind: 21, A: 4, B: 5}, []byte{21, 4, 5}},
		{impl.Frame{Kind: 22, A: 6}, []byte{22, 6}},
		{impl.Frame{Kind: 22, A: 6, B: 1}, []byte{23, 6}},
		{impl.Frame{Kind: 24, A: 3, B: 2, Data: []byte{11, 12}, Token: []byte{1, 2, 3, 4, 5, 6, 7, 8}}, []byte{24, 3, 2, 2, 11, 12, 1, 2, 3, 4, 5, 6, 7, 8}},
		{impl.Frame{Kind: 25, A: 12}, []byte{25, 12}},
		{impl.Frame{Kind: 26, Data: []byte{8, 7, 6, 5, 4, 3, 2, 1}}, []byte{26, 8, 7, 6, 5, 4, 3, 2, 1}},
		{impl.Frame{Kind: 27, Data: []byte{1, 7, 6, 5, 4, 3, 2, 1}}, []byte{27, 1, 7, 6, 5, 4, 3, 2, 1}},
		{impl.Frame{Kind: 28, A: 10, B: 8, Data: []byte("why")}, []byte{28, 10, 8, 3, 'w', 'h', 'y'}},
		{impl.Frame{Kind: 29, A: 11, Data: []byte("so")}, []byte{29, 11, 2, 's', 'o'}},
		{impl.Frame{Kind: 30}, []byte{30}},
		{impl.Frame{Kind: 48, Data: []byte{5, 5}}, []byte{49, 2, 5, 5}},
	}
}

func TestP5FramesWrittenOut(t *testing.T) {
	for _, c := range plainFrames() {
		checkFrameBytes(t, c.f, c.b, impl.OK)
		checkReadFrame(t, c.b, 0, c.f, len(c.b), impl.OK)
		if !bytes.Equal(frameBytesAsked(c.f), c.b) || !frameOKAsked(c.f) {
			t.Errorf("%s: the rule written out anew has %x", told(c.f), frameBytesAsked(c.f))
		}
	}
}

// spacedRanges are count ranges of one number each, two apart, so that they just do not touch.
func spacedRanges(count, from int) []impl.Range {
	var list []impl.Range
	for i := range count {
		list = append(list, impl.Range{Lo: from + 2*i, Hi: from + 2*i})
	}
	return list
}

// edgeFrames are valid frames at the limits that the chapter names.
func edgeFrames() []impl.Frame {
	token := rowOf(8, 3, 256)
	list := []impl.Frame{
		{Kind: 0, A: 1}, {Kind: 0, A: 2}, {Kind: 0, A: 1499}, {Kind: 0, A: 1500},
		{Kind: 2, A: maxVar, Ranges: []impl.Range{{Lo: 0, Hi: maxVar}}},
		{Kind: 2, Ranges: []impl.Range{{Lo: maxVar, Hi: maxVar}}},
		{Kind: 2, Ranges: []impl.Range{{Lo: 0, Hi: 0}, {Lo: maxVar, Hi: maxVar}}},
		{Kind: 2, Ranges: []impl.Range{{Lo: 0, Hi: 4}, {Lo: 6, Hi: 6}, {Lo: 8, Hi: maxVar}}},
		{Kind: 2, A: 1, Ranges: []impl.Range{{Lo: 0, Hi: 63}, {Lo: 129, Hi: 193}, {Lo: 16579, Hi: 16579}}},
		{Kind: 2, Ranges: spacedRanges(1, 7)}, {Kind: 2, Ranges: spacedRanges(2, 0)},
		{Kind: 2, Ranges: spacedRanges(63, 1)}, {Kind: 2, Ranges: spacedRanges(64, 0)},
		{Kind: 2, Ranges: spacedRanges(64, maxVar-126)},
		{Kind: 18, A: 1 << 60}, {Kind: 18, A: 1 << 60, B: 1}, {Kind: 18}, {Kind: 18, B: 1},
		{Kind: 22, A: 1 << 60}, {Kind: 22, A: 1 << 60, B: 1}, {Kind: 22}, {Kind: 22, B: 1},
	}
	for _, row := range kindRows {
		if len(row.numbers) == 0 || row.kind == 18 || row.kind == 22 || row.kind == 24 {
			continue
		}
		for _, v := range []int{0, 1, 63, 64, 16383, 16384, 1<<30 - 1, 1 << 30, maxVar - 1, maxVar} {
			list = append(list, withNumbers(row, v, 0, 0), withNumbers(row, 0, v, 0), withNumbers(row, 0, 0, v), withNumbers(row, v, v, v))
		}
	}
	for _, n := range []int{0, 1, 2, 63, 64, 1499, 1500} {
		data := rowOf(n, 1, 251)
		list = append(list,
			impl.Frame{Kind: 6, Data: data}, impl.Frame{Kind: 6, A: maxVar - n, Data: data}, impl.Frame{Kind: 6, A: maxVar - n - 1, Data: data},
			impl.Frame{Kind: 8, Data: data}, impl.Frame{Kind: 8, A: maxVar, B: maxVar - n, Data: data, Fin: true}, impl.Frame{Kind: 8, B: maxVar - n - 1, Data: data},
			impl.Frame{Kind: 8, A: 4, Data: data, Fin: true}, impl.Frame{Kind: 8, A: 4, B: 1, Data: data}, impl.Frame{Kind: 48, Data: data})
	}
	for _, n := range []int{1, 2, 63, 64} {
		list = append(list, impl.Frame{Kind: 7, Data: rowOf(n, 1, 251)})
	}
	for n := 1; n <= 8; n++ {
		for _, pair := range [][2]int{{0, 0}, {1, 0}, {1, 1}, {maxVar, 0}, {maxVar, maxVar - 1}, {maxVar, maxVar}} {
			list = append(list, impl.Frame{Kind: 24, A: pair[0], B: pair[1], Data: rowOf(n, 5, 256), Token: token})
		}
	}
	for _, n := range []int{0, 1, 63, 64, 199, 200} {
		list = append(list, impl.Frame{Kind: 28, A: 1, B: 2, Data: rowOf(n, 1, 251)}, impl.Frame{Kind: 29, A: 1, Data: rowOf(n, 1, 251)})
	}
	return append(list, impl.Frame{Kind: 26, Data: zeroes(8)}, impl.Frame{Kind: 27, Data: zeroes(8)}, impl.Frame{Kind: 1}, impl.Frame{Kind: 30})
}

// withNumbers leaves out those of the three that the kind has not.
func withNumbers(row kindRow, a, b, c int) impl.Frame {
	f := impl.Frame{Kind: row.kind, Data: zeroes(row.least)}
	if strings.Contains(row.fields, "A") {
		f.A = a
	}
	if strings.Contains(row.fields, "B") {
		f.B = b
	}
	if strings.Contains(row.fields, "C") {
		f.C = c
	}
	return f
}

func TestP5FrameEdges(t *testing.T) {
	for _, f := range edgeFrames() {
		if !frameOKAsked(f) {
			t.Fatalf("%s is no valid frame", told(f))
		}
		b := frameBytesAsked(f)
		checkFrameBytes(t, f, b, impl.OK)
		checkReadFrame(t, b, 0, f, len(b), impl.OK)
	}
}

// wrongFrames are one step beyond a limit each.
func wrongFrames() []impl.Frame {
	token := rowOf(8, 3, 256)
	big := rowOf(1501, 1, 251)
	ranges := func(list ...impl.Range) impl.Frame { return impl.Frame{Kind: 2, Ranges: list} }
	list := []impl.Frame{
		{Kind: 0}, {Kind: 0, A: 1501}, {Kind: 0, A: -1}, {Kind: 0, A: math.MaxInt}, {Kind: 0, A: math.MinInt},
		{Kind: 2}, {Kind: 2, Ranges: []impl.Range{}}, {Kind: 2, Ranges: spacedRanges(65, 0)}, {Kind: 2, Ranges: spacedRanges(5000, 0)},
		ranges(impl.Range{Lo: 1, Hi: 2}, impl.Range{Lo: 3, Hi: 4}), ranges(impl.Range{Lo: 1, Hi: 2}, impl.Range{Lo: 2, Hi: 4}),
		ranges(impl.Range{Lo: 7, Hi: 9}, impl.Range{Lo: 1, Hi: 2}), ranges(impl.Range{Lo: 7, Hi: 9}, impl.Range{Lo: 7, Hi: 9}),
		ranges(impl.Range{Lo: 2, Hi: 1}), ranges(impl.Range{Lo: -1, Hi: 1}), ranges(impl.Range{Lo: -2, Hi: -1}),
		ranges(impl.Range{Lo: 0, Hi: maxVar + 1}), ranges(impl.Range{Lo: maxVar + 1, Hi: maxVar + 1}),
		ranges(impl.Range{Lo: math.MinInt, Hi: math.MaxInt}), ranges(impl.Range{Lo: 0, Hi: math.MaxInt}, impl.Range{Lo: 3, Hi: 4}),
		ranges(impl.Range{Lo: 0, Hi: maxVar}, impl.Range{Lo: maxVar + 1, Hi: maxVar + 1}),
		ranges(impl.Range{Lo: 0, Hi: 1}, impl.Range{Lo: 3, Hi: 4}, impl.Range{Lo: 5, Hi: 6}),
		ranges(impl.Range{Lo: 0, Hi: 1}, impl.Range{Lo: 4, Hi: 3}, impl.Range{Lo: 7, Hi: 8}),
		{Kind: 6, Data: big}, {Kind: 8, Data: big}, {Kind: 48, Data: big}, {Kind: 6, Data: zeroes(70000)},
		{Kind: 6, A: maxVar, Data: []byte{1}}, {Kind: 6, A: maxVar - 1499, Data: zeroes(1500)},
		{Kind: 8, B: maxVar, Data: []byte{1}}, {Kind: 8, B: maxVar - 1499, Data: zeroes(1500)}, {Kind: 8, B: math.MaxInt, Data: []byte{1}},
		{Kind: 7}, {Kind: 7, Data: zeroes(65)},
		{Kind: 18, A: 1<<60 + 1}, {Kind: 18, B: 2}, {Kind: 18, B: -1}, {Kind: 18, A: 1<<60 + 1, B: 1}, {Kind: 18, B: math.MaxInt},
		{Kind: 22, A: 1<<60 + 1}, {Kind: 22, B: 2}, {Kind: 22, B: -1}, {Kind: 22, A: 1<<60 + 1, B: 1}, {Kind: 22, B: math.MaxInt},
		{Kind: 24, A: 1, B: 2, Data: []byte{1}, Token: token}, {Kind: 24, B: 1, Data: []byte{1}, Token: token},
		{Kind: 24, A: maxVar - 1, B: maxVar, Data: []byte{1}, Token: token},
		{Kind: 24, Token: token}, {Kind: 24, Data: zeroes(9), Token: token}, {Kind: 24, Data: zeroes(300), Token: token},
		{Kind: 24, Data: []byte{1}}, {Kind: 24, Data: []byte{1}, Token: zeroes(7)}, {Kind: 24, Data: []byte{1}, Token: zeroes(9)},
		{Kind: 26}, {Kind: 26, Data: zeroes(7)}, {Kind: 26, Data: zeroes(9)}, {Kind: 27}, {Kind: 27, Data: zeroes(7)}, {Kind: 27, Data: zeroes(9)},
		{Kind: 28, Data: zeroes(201)}, {Kind: 29, Data: zeroes(201)},
	}
	for _, c := range plainFrames() {
		for _, v := range []int{-1, maxVar + 1, math.MinInt, math.MaxInt} {
			a, b, c := c.f, c.f, c.f
			a.A, b.B, c.C = v, v, v
			list = append(list, a, b, c)
		}
	}
	return list
}

func TestWrongFrames(t *testing.T) {
	for _, f := range wrongFrames() {
		if frameOKAsked(f) {
			t.Fatalf("%s is a valid frame", told(f))
		}
		checkFrameBytes(t, f, nil, impl.ErrBad)
	}
}

func TestFrameFieldsThatAKindHasNot(t *testing.T) {
	for _, c := range plainFrames() {
		row, _ := rowOfKind(c.f.Kind)
		for field, set := range map[string]func(f *impl.Frame){
			"A": func(f *impl.Frame) { f.A = 1 },
			"B": func(f *impl.Frame) { f.B = 1 },
			"C": func(f *impl.Frame) { f.C = 1 },
			"F": func(f *impl.Frame) { f.Fin = true },
			"D": func(f *impl.Frame) { f.Data = []byte{0} },
			"T": func(f *impl.Frame) { f.Token = zeroes(8) },
			"R": func(f *impl.Frame) { f.Ranges = []impl.Range{{}} },
		} {
			f := c.f
			set(&f)
			if strings.Contains(row.fields, field) {
				checkFrameAsked(t, f)
			} else {
				checkFrameBytes(t, f, nil, impl.ErrBad)
			}
		}
	}
}

// How many bytes a frame takes is known ahead of writing it: no room is left behind them.
func TestFrameBytesTakeTheirRoomAlone(t *testing.T) {
	for _, f := range edgeFrames() {
		if b, _ := impl.FrameBytes(f); cap(b) != len(b) {
			t.Errorf("FrameBytes(%s) has %d bytes and room for %d", told(f), len(b), cap(b))
		}
	}
}

func TestFrameEmptyLists(t *testing.T) {
	for _, c := range plainFrames() {
		f := c.f
		if len(f.Data) == 0 {
			f.Data = []byte{}
		}
		if len(f.Token) == 0 {
			f.Token = []byte{}
		}
		if len(f.Ranges) == 0 {
			f.Ranges = []impl.Range{}
		}
		checkFrameBytes(t, f, c.b, impl.OK)
	}
}

func TestFrameKinds(t *testing.T) {
	for kind := -3; kind <= 300; kind++ {
		for _, more := range []impl.Frame{{}, {A: 1}, {Data: zeroes(8)}, {Ranges: spacedRanges(1, 0)}, {A: 1, Data: []byte{1}, Token: zeroes(8)}} {
			more.Kind = kind
			checkFrameAsked(t, more)
		}
	}
	for _, kind := range oddInts() {
		checkFrameAsked(t, impl.Frame{Kind: kind})
		checkFrameAsked(t, impl.Frame{Kind: kind, A: 1})
	}
}

func drawnRanges(more *numbers, count int) []impl.Range {
	var list []impl.Range
	from := more.below(3)
	for range count {
		r := impl.Range{Lo: from, Hi: from + more.below(1<<more.below(20))}
		list = append(list, r)
		from = r.Hi + 2 + more.below(1<<more.below(20))
	}
	if more.below(4) == 0 {
		list[count-1].Hi = maxVar - more.below(3)
	}
	return list
}

// drawnFrame is a valid frame of any kind.
func drawnFrame(more *numbers) impl.Frame {
	row := kindRows[more.below(len(kindRows))]
	f := withNumbers(row, more.variable(), more.variable(), more.variable())
	f.Data = more.bytes(row.least + more.below(min(row.most-row.least, 1<<more.below(12))+1))
	switch row.kind {
	case 0:
		f.A = 1 + more.below(1500)
	case 2:
		f.Ranges = drawnRanges(more, 1+more.below(1<<more.below(7)))
	case 6:
		f.A = min(f.A, maxVar-len(f.Data))
	case 8:
		f.B = min(f.B, maxVar-len(f.Data)) * more.below(2)
		f.Fin = more.below(2) == 1
	case 18, 22:
		f.A, f.B = f.A>>2, f.B%2
	case 24:
		f.A, f.B, f.Token = max(f.A, f.B), min(f.A, f.B), more.bytes(8)
	}
	return f
}

func TestP5FramesDrawn(t *testing.T) {
	more := numbers(51)
	for range 20000 {
		f := drawnFrame(&more)
		if !frameOKAsked(f) {
			t.Fatalf("%s is no valid frame", told(f))
		}
		b := frameBytesAsked(f)
		checkFrameBytes(t, f, b, impl.OK)
		checkReadFrame(t, b, 0, f, len(b), impl.OK)
	}
}

func TestFramesDrawnWithAFault(t *testing.T) {
	more := numbers(52)
	odd := oddInts()
	for range 20000 {
		f := drawnFrame(&more)
		switch more.below(8) {
		case 0:
			f.Kind = more.below(52)
		case 1:
			f.A = odd[more.below(len(odd))]
		case 2:
			f.B = odd[more.below(len(odd))]
		case 3:
			f.C = odd[more.below(len(odd))]
		case 4:
			f.Fin = !f.Fin
		case 5:
			f.Data = zeroes(more.below(1503))
		case 6:
			f.Token = zeroes(more.below(10))
		case 7:
			f.Ranges = append(slices.Clone(f.Ranges), impl.Range{Lo: more.variable(), Hi: more.variable()})
		}
		checkFrameAsked(t, f)
	}
}

func TestFrameFits(t *testing.T) {
	for kind := -3; kind <= 300; kind++ {
		_, there := rowOfKind(kind)
		for form := -3; form <= 70; form++ {
			want := false
			switch form {
			case 1, 2:
				want = kind == 0 || kind == 1 || kind == 2 || kind == 6 || kind == 28
			case 4:
				want = there
			}
			if got := impl.FrameFits(kind, form); got != want {
				t.Errorf("FrameFits(%d, %d) = %v", kind, form, got)
			}
		}
	}
	for _, v := range oddInts() {
		_, there := rowOfKind(v)
		if got := impl.FrameFits(v, impl.FormShort); got != there {
			t.Errorf("FrameFits(%d, FormShort) = %v", v, got)
		}
		if got := impl.FrameFits(impl.FPing, v); got != (v == 1 || v == 2 || v == 4) {
			t.Errorf("FrameFits(FPing, %d) = %v", v, got)
		}
	}
}

func TestAsks(t *testing.T) {
	kinds := oddInts()
	for kind := -3; kind <= 300; kind++ {
		kinds = append(kinds, kind)
	}
	for _, kind := range kinds {
		_, there := rowOfKind(kind)
		want := there && kind != 0 && kind != 2 && kind != 28 && kind != 29
		if got := impl.Asks(kind); got != want {
			t.Errorf("Asks(%d) = %v", kind, got)
		}
	}
}
