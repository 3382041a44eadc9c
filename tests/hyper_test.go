package tests

import (
	"bytes"
	"fmt"
	"math"
	"testing"

	"loop.example/g00012/impl"
)

func TestHyperLimits(t *testing.T) {
	for i, pair := range [][2]int{
		{impl.MaxHyper, 16384}, {impl.MaxSet, 16}, {impl.MaxPath, 200}, {impl.MaxLength, 999999999},
		{impl.HData, 0}, {impl.HFields, 1}, {impl.HSettings, 4}, {impl.HGoaway, 7}, {impl.HPriority, 15},
	} {
		if pair[0] != pair[1] {
			t.Errorf("constant %d is %d, want %d", i, pair[0], pair[1])
		}
	}
}

// settings are those of these ids and values: id, value, id, value, ..
func settings(list ...int) []impl.Setting {
	var out []impl.Setting
	for i := 0; i < len(list); i += 2 {
		out = append(out, impl.Setting{Id: list[i], Value: list[i+1]})
	}
	return out
}

// manySettings are so many, each of an id of its own.
func manySettings(count, from int) []impl.Setting {
	var out []impl.Setting
	for i := range count {
		out = append(out, impl.Setting{Id: from + i, Value: 1000 * i})
	}
	return out
}

// unnamedKinds have no name: they are carried, whatever they are.
func unnamedKinds() []int {
	return []int{2, 3, 5, 6, 8, 9, 13, 14, 16, 63, 64, 68, 71, 16383, 16384, 1073741824, maxVar - 1, maxVar}
}

// plainHypers are ordinary frames with their bytes written out.
func plainHypers() []struct {
	f impl.HFrame
	b []byte
} {
	return []struct {
		f impl.HFrame
		b []byte
	}{
		{impl.HFrame{Kind: 0}, []byte{0, 0}},
		{impl.HFrame{Kind: 0, Data: []byte("abc")}, []byte{0, 3, 'a', 'b', 'c'}},
		{impl.HFrame{Kind: 0, Data: []byte{0}}, []byte{0, 1, 0}},
		{impl.HFrame{Kind: 1}, []byte{1, 0}},
		{impl.HFrame{Kind: 1, Data: []byte{0, 193, 192}}, []byte{1, 3, 0, 193, 192}},
		{impl.HFrame{Kind: 4}, []byte{4, 0}},
		{impl.HFrame{Kind: 4, Set: settings(1, 400, 7, 2)}, []byte{4, 5, 1, 65, 144, 7, 2}},
		{impl.HFrame{Kind: 4, Set: settings(7, 2, 1, 2)}, []byte{4, 4, 7, 2, 1, 2}},
		{impl.HFrame{Kind: 4, Set: settings(16384, 63, 63, 16384, 0, 0)}, []byte{4, 12, 128, 0, 64, 0, 63, 63, 128, 0, 64, 0, 0, 0}},
		{impl.HFrame{Kind: 7}, []byte{7, 1, 0}},
		{impl.HFrame{Kind: 7, A: 12}, []byte{7, 1, 12}},
		{impl.HFrame{Kind: 7, A: maxVar}, []byte{7, 8, 255, 255, 255, 255, 255, 255, 255, 255}},
		{impl.HFrame{Kind: 15}, []byte{15, 1, 0}},
		{impl.HFrame{Kind: 15, A: 64}, []byte{15, 2, 64, 64}},
		{impl.HFrame{Kind: 15, A: 8, Data: []byte("u=1, i")}, []byte{15, 7, 8, 'u', '=', '1', ',', ' ', 'i'}},
		{impl.HFrame{Kind: 15, A: 300, Data: []byte{255, 0}}, []byte{15, 4, 65, 44, 255, 0}},
		{impl.HFrame{Kind: 2, Data: []byte("x")}, []byte{2, 1, 'x'}},
		{impl.HFrame{Kind: 33}, []byte{33, 0}},
		{impl.HFrame{Kind: 68, Data: []byte{4}}, []byte{64, 68, 1, 4}},
		{impl.HFrame{Kind: maxVar, Data: []byte{1, 2}}, []byte{255, 255, 255, 255, 255, 255, 255, 255, 2, 1, 2}},
	}
}

func TestP5HyperWrittenOut(t *testing.T) {
	more := numbers(15)
	for _, c := range plainHypers() {
		checkHyperBytes(t, c.f, c.b, impl.OK)
		checkReadHyper(t, c.b, 0, c.f, len(c.b), impl.OK)
		checkHyperAsked(t, c.f)
		checkHyperBack(t, c.f, &more)
	}
}

// edgeHypers are valid frames at the limits that the chapter names.
func edgeHypers() []impl.HFrame {
	var list []impl.HFrame
	for _, kind := range append(unnamedKinds(), 0, 1) {
		for _, n := range []int{0, 1, 63, 64, 1024, 1025, 16383, 16384} {
			list = append(list, impl.HFrame{Kind: kind, Data: rowOf(n, 7, 251)})
		}
	}
	numbers := []int{0, 1, 63, 64, 16383, 16384, 1073741823, 1073741824, maxVar - 1, maxVar}
	for _, a := range numbers {
		list = append(list, impl.HFrame{Kind: 7, A: a}, impl.HFrame{Kind: 15, A: a})
		for _, n := range []int{1, 62, 63, 1023, 1024} {
			list = append(list, impl.HFrame{Kind: 15, A: a, Data: rowOf(n, 7, 251)})
		}
		for _, b := range numbers {
			list = append(list, impl.HFrame{Kind: 4, Set: settings(a, b)}, impl.HFrame{Kind: 4, Set: settings(a^1, b, a, b)})
		}
	}
	for _, n := range []int{0, 1, 2, 15, 16} {
		list = append(list, impl.HFrame{Kind: 4, Set: manySettings(n, 0)}, impl.HFrame{Kind: 4, Set: manySettings(n, maxVar-15)})
	}
	long := manySettings(16, maxVar-15)
	for i := range long {
		long[i].Value = maxVar
	}
	return append(list, impl.HFrame{Kind: 4, Set: long})
}

func TestP5HyperEdges(t *testing.T) {
	more := numbers(16)
	for _, f := range edgeHypers() {
		if !checkHyperAsked(t, f) {
			t.Errorf("not valid: %s", toldHyper(f))
		}
		checkHyperBack(t, f, &more)
	}
}

// wrongHypers are not valid.
func wrongHypers() []impl.HFrame {
	var list []impl.HFrame
	for _, kind := range []int{-1, -4, -15, math.MinInt, maxVar + 1, maxVar + 5, math.MaxInt} {
		list = append(list, impl.HFrame{Kind: kind}, impl.HFrame{Kind: kind, Data: []byte("d")}, impl.HFrame{Kind: kind, A: 1}, impl.HFrame{Kind: kind, Set: settings(1, 1)})
	}
	oddNumbers := []int{-1, math.MinInt, maxVar + 1, math.MaxInt}
	for _, kind := range append(unnamedKinds(), 0, 1) {
		for _, a := range append(oddNumbers, 1, 64, maxVar) {
			list = append(list, impl.HFrame{Kind: kind, A: a}, impl.HFrame{Kind: kind, A: a, Data: []byte("d")})
		}
		list = append(list, impl.HFrame{Kind: kind, Set: settings(0, 0)}, impl.HFrame{Kind: kind, Set: settings(1, 2, 3, 4), Data: []byte("d")})
		list = append(list, impl.HFrame{Kind: kind, Data: zeroes(16385)}, impl.HFrame{Kind: kind, Data: zeroes(65537)})
	}
	for _, a := range append(oddNumbers, 1, 64, maxVar) {
		list = append(list, impl.HFrame{Kind: 4, A: a}, impl.HFrame{Kind: 4, A: a, Set: settings(1, 2)})
	}
	for _, a := range oddNumbers {
		list = append(list, impl.HFrame{Kind: 7, A: a}, impl.HFrame{Kind: 15, A: a}, impl.HFrame{Kind: 15, A: a, Data: []byte("i")})
		list = append(list, impl.HFrame{Kind: 4, Set: settings(a, 0)}, impl.HFrame{Kind: 4, Set: settings(0, a)}, impl.HFrame{Kind: 4, Set: settings(1, 1, 2, a)}, impl.HFrame{Kind: 4, Set: settings(1, 1, a, 2, 3, 3)})
	}
	for _, n := range []int{1, 2, 1024, 16384, 16385} {
		list = append(list, impl.HFrame{Kind: 7, Data: zeroes(n)}, impl.HFrame{Kind: 7, A: 9, Data: zeroes(n)}, impl.HFrame{Kind: 4, Data: zeroes(n)}, impl.HFrame{Kind: 4, Set: settings(1, 2), Data: zeroes(n)})
	}
	for _, n := range []int{1025, 1026, 16376, 16383, 16384, 16385} {
		list = append(list, impl.HFrame{Kind: 15, Data: zeroes(n)}, impl.HFrame{Kind: 15, A: maxVar, Data: zeroes(n)})
	}
	for _, kind := range []int{7, 15} {
		list = append(list, impl.HFrame{Kind: kind, Set: settings(0, 0)}, impl.HFrame{Kind: kind, A: 3, Set: settings(1, 2)}, impl.HFrame{Kind: kind, Set: manySettings(17, 0)})
	}
	for _, n := range []int{17, 18, 64, 4096, 5000} {
		list = append(list, impl.HFrame{Kind: 4, Set: manySettings(n, 0)})
	}
	for _, set := range [][]impl.Setting{settings(1, 2, 1, 2), settings(1, 2, 1, 3), settings(0, 0, 0, 1), settings(1, 2, 3, 4, 1, 2), settings(3, 3, 9, 1, 4, 4, 5, 5, 9, 2), settings(maxVar, 0, 0, maxVar, maxVar, 1)} {
		list = append(list, impl.HFrame{Kind: 4, Set: set})
	}
	for i := range 15 {
		set := manySettings(16, 0)
		set[i].Id = 15
		list = append(list, impl.HFrame{Kind: 4, Set: set})
	}
	return list
}

func TestP5HyperNotValid(t *testing.T) {
	for _, f := range wrongHypers() {
		checkHyperBytes(t, f, nil, impl.ErrBad)
		if checkHyperAsked(t, f) {
			t.Errorf("valid: %s", toldHyper(f))
		}
	}
}

// Every number of a frame may be any integer.
func TestP1HyperNumbers(t *testing.T) {
	for _, odd := range append(oddInts(), -1, 15, 16, 17) {
		mustEnd(t, fmt.Sprintf("a frame with %d", odd), func() {
			for _, f := range []impl.HFrame{
				{Kind: odd}, {Kind: odd, Data: []byte("d")}, {Kind: odd, A: 4}, {Kind: odd, Set: settings(1, 2)},
				{Kind: odd, A: 4, Data: []byte("d")}, {Kind: odd, Data: zeroes(1025)}, {Kind: odd, A: odd}, {Kind: odd, Set: settings(odd, odd)},
				{Kind: 4, Set: settings(odd, 1)}, {Kind: 4, Set: settings(1, odd)}, {Kind: 4, Set: settings(1, 1, odd, odd)}, {Kind: 4, A: odd},
				{Kind: 0, A: odd}, {Kind: 1, A: odd}, {Kind: 7, A: odd}, {Kind: 15, A: odd}, {Kind: 15, A: odd, Data: []byte("i")}, {Kind: 16, A: odd},
			} {
				if checkHyperAsked(t, f) {
					checkReadHyper(t, hyperBytesAsked(f), 0, f, len(hyperBytesAsked(f)), impl.OK)
				}
			}
			for state := -2; state <= 5; state++ {
				checkArrangeAsked(t, state, odd)
				checkArrangeAsked(t, odd, state)
			}
			checkArrangeAsked(t, odd, odd)
		})
	}
}

// drawnHyper is a frame of any kind, most of them valid.
func drawnHyper(more *numbers) impl.HFrame {
	kinds := []int{0, 1, 4, 4, 7, 15, 15, 2, 16}
	f := impl.HFrame{Kind: kinds[more.below(len(kinds))]}
	if more.below(5) == 0 {
		f.Kind = more.variable()
	}
	has, most := hyperFields(f.Kind)
	for _, field := range has {
		switch field {
		case 'A':
			f.A = more.variable()
		case 'D':
			f.Data = more.bytes(more.below(40))
			if more.below(40) == 0 {
				f.Data = more.bytes(most - more.below(3))
			}
		case 'S':
			for range more.below(18) {
				f.Set = append(f.Set, impl.Setting{Id: more.variable(), Value: more.variable()})
			}
		}
	}
	switch more.below(40) {
	case 0:
		f.A = near(more, 0, maxVar)
	case 1:
		f.Data = more.bytes(near(more, 1024, 16384)&0x7fff + more.below(2))
	case 2:
		f.Set = append(f.Set, impl.Setting{Id: more.below(4), Value: near(more, 0, maxVar)})
	case 3:
		f.Kind = near(more, 0, 4, 7, 15, maxVar)
	}
	return f
}

func TestP5HyperDrawn(t *testing.T) {
	more := numbers(17)
	valid := map[bool]int{}
	for range 20000 {
		f := drawnHyper(&more)
		ok := checkHyperAsked(t, f)
		valid[ok]++
		if ok {
			checkHyperBack(t, f, &more)
		}
	}
	if valid[true] < 10000 || valid[false] < 500 {
		t.Errorf("valid and not: %v", valid)
	}
}

// Frames that stand one behind the other are read one by one.
func TestP5HyperRows(t *testing.T) {
	more := numbers(18)
	for range 300 {
		var frames []impl.HFrame
		var b []byte
		for len(frames) < 1+more.below(12) {
			if f := drawnHyper(&more); hyperOKAsked(f) && len(f.Data) < 2000 {
				frames = append(frames, f)
				b = append(b, first(impl.HyperBytes(f))...)
			}
		}
		at := 0
		for _, f := range frames {
			n := len(hyperBytesAsked(f))
			checkReadHyper(t, b, at, f, at+n, impl.OK)
			at += n
		}
		refusesHyper(t, b, at, impl.ErrShort)
	}
}

func arrangeAsked(state, kind int) (int, int) {
	if !inRange(state, 0, 3) || kind < 0 {
		return 0, impl.ErrBad
	}
	named := map[int][]int{0: {-1, 2, 2, -1}, 1: {1, 3, 3, -1}, 4: {-1, -1, -1, -1}, 7: {-1, -1, -1, -1}, 15: {-1, -1, -1, -1}}
	row, ok := named[kind]
	if !ok {
		return state, impl.OK
	}
	if row[state] < 0 {
		return 0, impl.ErrPlace
	}
	return row[state], impl.OK
}

func checkArrangeAsked(t *testing.T, state, kind int) {
	t.Helper()
	want, code := arrangeAsked(state, kind)
	if got, gotCode := impl.Arrange(state, kind); got != want || gotCode != code {
		t.Errorf("Arrange(%d, %d) = %d %d, want %d %d", state, kind, got, gotCode, want, code)
	}
}

func TestArrange(t *testing.T) {
	for _, c := range [][4]int{
		{0, 1, 1, impl.OK}, {1, 1, 3, impl.OK}, {2, 1, 3, impl.OK}, {3, 1, 0, impl.ErrPlace},
		{0, 0, 0, impl.ErrPlace}, {1, 0, 2, impl.OK}, {2, 0, 2, impl.OK}, {3, 0, 0, impl.ErrPlace},
		{0, 4, 0, impl.ErrPlace}, {1, 4, 0, impl.ErrPlace}, {2, 4, 0, impl.ErrPlace}, {3, 4, 0, impl.ErrPlace},
		{0, 7, 0, impl.ErrPlace}, {1, 7, 0, impl.ErrPlace}, {2, 7, 0, impl.ErrPlace}, {3, 7, 0, impl.ErrPlace},
		{0, 15, 0, impl.ErrPlace}, {1, 15, 0, impl.ErrPlace}, {2, 15, 0, impl.ErrPlace}, {3, 15, 0, impl.ErrPlace},
		{0, 2, 0, impl.OK}, {1, 3, 1, impl.OK}, {2, 5, 2, impl.OK}, {3, 16, 3, impl.OK}, {0, maxVar, 0, impl.OK}, {3, 14, 3, impl.OK},
		{-1, 1, 0, impl.ErrBad}, {4, 1, 0, impl.ErrBad}, {0, -1, 0, impl.ErrBad}, {3, -1, 0, impl.ErrBad}, {-1, -1, 0, impl.ErrBad},
		{4, 4, 0, impl.ErrBad}, {-1, 7, 0, impl.ErrBad}, {4, 2, 0, impl.ErrBad}, {4, 0, 0, impl.ErrBad}, {2, math.MinInt, 0, impl.ErrBad}, {math.MaxInt, 1, 0, impl.ErrBad},
	} {
		if got, code := impl.Arrange(c[0], c[1]); got != c[2] || code != c[3] {
			t.Errorf("Arrange(%d, %d) = %d %d, want %d %d", c[0], c[1], got, code, c[2], c[3])
		}
	}
	for state := -2; state <= 6; state++ {
		for kind := -20; kind <= 100; kind++ {
			checkArrangeAsked(t, state, kind)
		}
		for _, kind := range append(unnamedKinds(), maxVar+1, math.MaxInt) {
			checkArrangeAsked(t, state, kind)
		}
	}
}

// What a stream may carry is fields, content, and fields once more at most, with what has no name anywhere between.
func TestArrangeRows(t *testing.T) {
	letters := map[int]string{0: "d", 1: "f", 4: "x", 7: "x", 15: "x", 33: ""}
	met := map[bool]int{}
	for count := range 6 {
		eachOp(count, []int{0, 1, 4, 7, 15, 33}, nil, func(row []int) {
			state, code, text := 0, impl.OK, ""
			for _, kind := range row {
				text += letters[kind]
				if code == impl.OK {
					state, code = impl.Arrange(state, kind)
				}
			}
			if fits := rowFits(text); fits != (code == impl.OK) {
				t.Errorf("%v: code %d", row, code)
			}
			met[code == impl.OK]++
		})
	}
	if met[true] < 100 || met[false] < 5000 {
		t.Errorf("rows that may come and that may not: %v", met)
	}
}

// rowFits tells whether a row of fields (f) and content (d) may come on a stream.
func rowFits(text string) bool {
	row := []byte(text)
	if len(row) == 0 {
		return true
	}
	row = bytes.TrimLeft(row[1:], "d")
	return text[0] == 'f' && (len(row) == 0 || string(row) == "f")
}
