package tests

import (
	"bytes"
	"fmt"
	"math"
	"testing"

	"loop.example/g00012/impl"
)

func TestReadHyperPlaces(t *testing.T) {
	b := []byte{0, 1, 9, 7, 1, 5, 33, 0}
	for _, at := range append(oddInts(), -1, 5, 6, 7, 8, 9, 10) {
		switch {
		case at < 0 || at > len(b):
			refusesHyper(t, b, at, impl.ErrBad)
		default:
			checkReadHyperAsked(t, b, at)
		}
		if at != 0 {
			refusesHyper(t, nil, at, impl.ErrBad)
		}
	}
	checkReadHyper(t, b, 0, impl.HFrame{Data: []byte{9}}, 3, impl.OK)
	checkReadHyper(t, b, 3, impl.HFrame{Kind: 7, A: 5}, 6, impl.OK)
	checkReadHyper(t, b, 6, impl.HFrame{Kind: 33}, 8, impl.OK)
	refusesHyper(t, b, 7, impl.ErrShort)
	refusesHyper(t, b, 8, impl.ErrShort)
	refusesHyper(t, nil, 0, impl.ErrShort)
	refusesHyper(t, []byte{}, 0, impl.ErrShort)
	for at := -1; at <= len(b)+1; at++ {
		checkReadHyperAsked(t, b, at)
	}
}

func TestReadHyperLongest(t *testing.T) {
	b := bytes.Repeat([]byte{33, 0}, 32768)
	checkReadHyper(t, b, 0, impl.HFrame{Kind: 33}, 2, impl.OK)
	checkReadHyper(t, b, 65534, impl.HFrame{Kind: 33}, 65536, impl.OK)
	refusesHyper(t, b, 65535, impl.ErrShort)
	refusesHyper(t, b, 65536, impl.ErrShort)
	refusesHyper(t, b, 65537, impl.ErrBad)
	long := append(b, 33)
	for _, at := range []int{0, -1, 1, 65535, 65536, 65537, 65538, math.MinInt, math.MaxInt} {
		refusesHyper(t, long, at, impl.ErrLong)
	}
	refusesHyper(t, bytes.Repeat([]byte{7}, 65537), 0, impl.ErrLong)
	// The last bytes of the longest list are a frame too.
	f := impl.HFrame{Kind: 1, Data: rowOf(16384, 3, 251)}
	tail := hyperBytesAsked(f)
	checkReadHyper(t, join(zeroes(65536-len(tail)), tail), 65536-len(tail), f, 65536, impl.OK)
}

// Of every kind, cut off at every place: the bytes end within it.
func TestReadHyperCutOff(t *testing.T) {
	rows := [][]byte{
		hyperBytesAsked(impl.HFrame{Kind: 0, Data: rowOf(300, 1, 251)}),
		hyperBytesAsked(impl.HFrame{Kind: 4, Set: manySettings(16, maxVar-15)}),
		hyperBytesAsked(impl.HFrame{Kind: 15, A: maxVar, Data: rowOf(1024, 1, 251)}),
		hyperBytesAsked(impl.HFrame{Kind: maxVar, Data: rowOf(64, 1, 251)}),
		join(longVar(7, 8), longVar(8, 8), longVar(5, 8)),
		// What is wrong within the payload is looked at when all of it is there.
		{7, 4, 1, 1, 1, 1}, {4, 4, 1, 1, 1, 1}, {4, 1, 1}, {7, 1, 64}, {15, 1, 255}, {4, 3, 192, 0, 0},
		join([]byte{15}, varBytes(1026), zeroes(1026)),
	}
	for _, c := range plainHypers() {
		rows = append(rows, c.b)
	}
	for _, b := range rows {
		for n := range len(b) {
			refusesHyper(t, b[:n], 0, impl.ErrShort)
			refusesHyper(t, join([]byte{33, 0}, b[:n]), 2, impl.ErrShort)
		}
	}
	long := hyperBytesAsked(impl.HFrame{Kind: 1, Data: rowOf(16384, 1, 251)})
	for _, n := range []int{0, 1, 2, 3, 4, 5, 6, 16384, len(long) - 2, len(long) - 1} {
		refusesHyper(t, long[:n], 0, impl.ErrShort)
	}
}

func TestReadHyperLongerForms(t *testing.T) {
	for _, c := range []impl.HFrame{{Kind: 0, Data: []byte("ab")}, {Kind: 1, Data: []byte{0}}, {Kind: 4, Set: settings(1, 5)}, {Kind: 7, A: 9}, {Kind: 15, A: 9, Data: []byte("i")}, {Kind: 33}, {Kind: 64, Data: []byte("x")}} {
		payload := hyperBytesAsked(c)[len(varBytes(c.Kind))+1:]
		for _, kind := range lengthened(c.Kind) {
			for _, count := range lengthened(len(payload)) {
				b := join(kind, count, payload)
				checkReadHyper(t, b, 0, c, len(b), impl.OK)
				checkReadHyper(t, join([]byte{9}, b, []byte{9}), 1, c, 1+len(b), impl.OK)
			}
		}
	}
	// And the numbers of the payload.
	for _, x := range lengthened(5) {
		for _, y := range lengthened(3) {
			for _, z := range lengthened(0) {
				for _, c := range []struct {
					f       impl.HFrame
					payload []byte
				}{
					{impl.HFrame{Kind: 4, Set: settings(5, 3)}, join(x, y)},
					{impl.HFrame{Kind: 4, Set: settings(5, 3, 0, 5)}, join(x, y, z, x)},
					{impl.HFrame{Kind: 7, A: 5}, x},
					{impl.HFrame{Kind: 7}, z},
					{impl.HFrame{Kind: 15, A: 3}, y},
					{impl.HFrame{Kind: 15, A: 5, Data: []byte("u=1")}, join(x, []byte("u=1"))},
				} {
					b := join(varBytes(c.f.Kind), varBytes(len(c.payload)), c.payload)
					checkReadHyper(t, b, 0, c.f, len(b), impl.OK)
				}
				// One id in two forms is twice the same.
				set := join(x, y, longVar(5, 8), z)
				refusesHyper(t, join([]byte{4}, varBytes(len(set)), set), 0, impl.ErrForm)
			}
		}
	}
}

func TestReadHyperCounts(t *testing.T) {
	data := rowOf(16385, 7, 251)
	for _, kind := range []int{0, 1, 2, 16, maxVar} {
		for _, n := range []int{0, 1, 1024, 1025, 16383, 16384} {
			b := join(varBytes(kind), varBytes(n), data[:n])
			checkReadHyper(t, b, 0, impl.HFrame{Kind: kind, Data: data[:n]}, len(b), impl.OK)
			if n > 0 {
				refusesHyper(t, b[:len(b)-1], 0, impl.ErrShort)
			}
		}
	}
	for _, kind := range append(unnamedKinds(), 0, 1, 4, 7, 15) {
		for _, n := range []int{16385, 16386, 65536, 1 << 30, maxVar} {
			for _, behind := range [][]byte{nil, {0}, data, data[:16384]} {
				refusesHyper(t, join(varBytes(kind), varBytes(n), behind), 0, impl.ErrForm)
				refusesHyper(t, join(varBytes(kind), longVar(n, 8), behind), 0, impl.ErrForm)
			}
		}
		// A count that is not whole is not looked at.
		refusesHyper(t, join(varBytes(kind), varBytes(maxVar)[:7]), 0, impl.ErrShort)
		refusesHyper(t, join(varBytes(kind), varBytes(16385)[:3]), 0, impl.ErrShort)
		refusesHyper(t, varBytes(kind), 0, impl.ErrShort)
	}
	for _, kind := range []int{4, 7, 15} {
		for _, n := range []int{1033, 16383, 16384} {
			refusesHyper(t, join(varBytes(kind), varBytes(n), data[:n]), 0, impl.ErrForm)
			refusesHyper(t, join(varBytes(kind), varBytes(n), data[:n-1]), 0, impl.ErrShort)
		}
	}
}

func TestReadHyperPayloads(t *testing.T) {
	max8 := varBytes(maxVar)
	text := func(n int) []byte { return bytes.Repeat([]byte("t"), n) }
	for _, c := range []struct {
		kind    int
		payload []byte
		code    int
	}{
		// The payload ends within a number, or ahead of one.
		{7, nil, impl.ErrForm}, {7, []byte{64}, impl.ErrForm}, {7, []byte{128, 0, 0}, impl.ErrForm}, {7, max8[:7], impl.ErrForm},
		{15, nil, impl.ErrForm}, {15, []byte{64}, impl.ErrForm}, {15, []byte{128, 'i', 'i'}, impl.ErrForm}, {15, max8[:7], impl.ErrForm},
		{4, []byte{1}, impl.ErrForm}, {4, []byte{64}, impl.ErrForm}, {4, []byte{1, 64}, impl.ErrForm}, {4, []byte{1, 2, 3}, impl.ErrForm}, {4, []byte{1, 2, 3, 128, 0, 0}, impl.ErrForm},
		{4, join([]byte{1}, max8[:7]), impl.ErrForm}, {4, join(max8), impl.ErrForm},
		// Something behind the last number.
		{7, []byte{1, 0}, impl.ErrForm}, {7, join(max8, []byte{0}), impl.ErrForm}, {7, []byte{64, 1, 64, 1}, impl.ErrForm}, {7, max8, impl.OK}, {7, []byte{0}, impl.OK},
		{4, nil, impl.OK}, {4, []byte{0, 0}, impl.OK}, {4, join(max8, max8), impl.OK}, {4, []byte{0, 1, 1, 0}, impl.OK}, {4, []byte{0, 1, 1, 0, 2}, impl.ErrForm},
		// Settings: too many, an id twice.
		{4, rowOf(32, 1, 64), impl.OK}, {4, rowOf(34, 1, 64), impl.ErrForm}, {4, rowOf(33, 1, 64), impl.ErrForm}, {4, zeroes(16384), impl.ErrForm},
		{4, []byte{1, 1, 1, 1}, impl.ErrForm}, {4, []byte{1, 1, 2, 1, 1, 5}, impl.ErrForm}, {4, []byte{1, 1, 64, 1, 5}, impl.ErrForm}, {4, []byte{1, 1, 2, 1}, impl.OK},
		// A text that is as long as it may be, and longer.
		{15, join([]byte{0}, text(1024)), impl.OK}, {15, join([]byte{0}, text(1025)), impl.ErrForm}, {15, join(max8, text(1024)), impl.OK}, {15, join(max8, text(1025)), impl.ErrForm},
		{15, join(longVar(1, 8), text(1024)), impl.OK}, {15, text(1026), impl.OK}, {15, text(1027), impl.ErrForm}, {15, []byte{0}, impl.OK}, {15, []byte{0, 0}, impl.OK},
	} {
		b := join(varBytes(c.kind), varBytes(len(c.payload)), c.payload)
		if code := checkReadHyperAsked(t, b, 0); code != c.code {
			t.Errorf("kind %d, payload %.40x: the rule has %d, want %d", c.kind, c.payload, code, c.code)
		}
		// What stands behind the payload counts for nothing, right as it would be within.
		for _, behind := range [][]byte{{0}, {0, 0, 0, 0, 0, 0, 0, 0}, {9, 9}, {4, 0}} {
			if code := checkReadHyperAsked(t, join(b, behind), 0); code != c.code {
				t.Errorf("kind %d, payload %.40x and %x behind: %d, want %d", c.kind, c.payload, behind, code, c.code)
			}
		}
	}
}

// Every payload of three bytes, for the kinds that have numbers in it.
func TestReadHyperSmallPayloads(t *testing.T) {
	bytes := []byte{0, 1, 2, 63, 64, 65, 127, 128, 191, 192, 255}
	for _, kind := range []byte{4, 7, 15, 0} {
		for _, x := range bytes {
			for _, y := range bytes {
				for _, z := range bytes {
					for n := range 4 {
						checkReadHyperAsked(t, append([]byte{kind, byte(n)}, []byte{x, y, z}[:n]...), 0)
						checkReadHyperAsked(t, []byte{kind, byte(n), x, y, z}, 0)
					}
				}
			}
		}
	}
}

func TestReadHyperDrawn(t *testing.T) {
	more := numbers(19)
	codes := map[int]int{}
	for range 30000 {
		var b []byte
		switch more.below(4) {
		case 0:
			b = more.bytes(more.below(30))
		case 1:
			payload := more.bytes(more.below(40))
			for i := range payload {
				payload[i] &= byte(255 >> more.below(8))
			}
			b = join([]byte{[]byte{0, 1, 4, 7, 15, 33}[more.below(6)], byte(len(payload))}, payload)
		default:
			f := drawnHyper(&more)
			if !hyperOKAsked(f) {
				continue
			}
			b = hyperBytesAsked(f)
			b[more.below(len(b))] ^= byte(1 << more.below(8))
		}
		switch more.below(6) {
		case 0:
			b = b[:more.below(len(b)+1)]
		case 1:
			b = join(b, more.bytes(more.below(5)))
		}
		ahead := more.bytes(more.below(3))
		codes[checkReadHyperAsked(t, join(ahead, b), len(ahead))]++
	}
	if min(codes[impl.OK], codes[impl.ErrShort], codes[impl.ErrForm]) < 1000 {
		t.Errorf("codes were met so often: %v", codes)
	}
}

// What stands behind the end of b is not of b.
func TestP1NoHyperBehindTheEndIsRead(t *testing.T) {
	whole := []byte{15, 3, 7, 'i', 'i', 4, 4, 1, 2, 3, 4}
	for n := range 5 {
		refusesHyper(t, whole[:n], 0, impl.ErrShort)
	}
	for n := 6; n < len(whole); n++ {
		refusesHyper(t, whole[:n], 5, impl.ErrShort)
	}
	checkReadHyper(t, whole[:5], 0, impl.HFrame{Kind: 15, A: 7, Data: []byte("ii")}, 5, impl.OK)
}

func TestP1ReadHyperTakesAnyPlace(t *testing.T) {
	for _, at := range append(oddInts(), -maxVar) {
		for _, b := range [][]byte{nil, {4, 0}, {0}, zeroes(65536), zeroes(65537)} {
			mustEnd(t, fmt.Sprintf("ReadHyper(%d bytes, %d)", len(b), at), func() { checkReadHyperAsked(t, b, at) })
		}
	}
}
