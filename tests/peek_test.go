package tests

import (
	"bytes"
	"fmt"
	"math"
	"slices"
	"testing"

	"loop.example/g00012/impl"
)

// peekAnswer is what Peek answers, and where the number begins.
type peekAnswer struct {
	h                     impl.Header
	numberAt, takes, code int
}

func noPeek(code int) peekAnswer { return peekAnswer{code: code} }

// peekAsked is the chapter's rule of Peek, word by word.
func peekAsked(b []byte, cidLen int) peekAnswer {
	switch {
	case len(b) > 65536:
		return noPeek(impl.ErrLong)
	case cidLen < 0 || cidLen > 8:
		return noPeek(impl.ErrBad)
	case len(b) == 0:
		return noPeek(impl.ErrShort)
	case b[0] < 64:
		return noPeek(impl.ErrForm)
	case b[0] >= 128:
		return peekLongAsked(b)
	case len(b) < 1+cidLen+12:
		return noPeek(impl.ErrShort)
	}
	return peekAnswer{impl.Header{Form: impl.FormShort, Dst: b[1 : 1+cidLen]}, 1 + cidLen, len(b), impl.OK}
}

func peekLongAsked(b []byte) peekAnswer {
	if len(b) < 5 {
		return noPeek(impl.ErrShort)
	}
	h := impl.Header{Version: ((int(b[1])*256+int(b[2]))*256+int(b[3]))*256 + int(b[4])}
	at := 5
	for _, cid := range []*[]byte{&h.Dst, &h.Src} {
		if at >= len(b) {
			return noPeek(impl.ErrShort)
		}
		n := int(b[at])
		if n > 8 {
			return noPeek(impl.ErrForm)
		}
		if at+1+n > len(b) {
			return noPeek(impl.ErrShort)
		}
		*cid = b[at+1 : at+1+n]
		at += 1 + n
	}
	if h.Version == 0 {
		return peekVersionsAsked(b, at, h)
	}
	switch {
	case b[0] >= 240:
		return peekRetryAsked(b, at, h)
	case b[0] >= 224:
		h.Form = impl.FormHandshake
	case b[0] >= 208 || b[0] < 192:
		return noPeek(impl.ErrForm)
	default:
		h.Form = impl.FormInitial
		n, next := variableAsked(b, at)
		if next == 0 {
			return noPeek(impl.ErrShort)
		}
		if n > 64 {
			return noPeek(impl.ErrForm)
		}
		if next+n > len(b) {
			return noPeek(impl.ErrShort)
		}
		h.Token, at = b[next:next+n], next+n
	}
	behind, next := variableAsked(b, at)
	switch {
	case next == 0:
		return noPeek(impl.ErrShort)
	case behind < 12 || behind > 1508:
		return noPeek(impl.ErrForm)
	case next+behind > len(b):
		return noPeek(impl.ErrShort)
	}
	return peekAnswer{h, next, next + behind, impl.OK}
}

func peekVersionsAsked(b []byte, at int, h impl.Header) peekAnswer {
	rest := b[at:]
	if b[0] != 128 || len(rest)%4 != 0 || len(rest) < 4 || len(rest) > 32 {
		return noPeek(impl.ErrForm)
	}
	for i := 0; i < len(rest); i += 4 {
		if bytes.Equal(rest[i:i+4], []byte{0, 0, 0, 0}) {
			return noPeek(impl.ErrForm)
		}
	}
	h.Form = impl.FormVersions
	return peekAnswer{h, 0, len(b), impl.OK}
}

func peekRetryAsked(b []byte, at int, h impl.Header) peekAnswer {
	if len(b)-at < 9 {
		return noPeek(impl.ErrShort)
	}
	if len(b)-at-8 > 64 {
		return noPeek(impl.ErrForm)
	}
	h.Form, h.Token = impl.FormRetry, b[at:len(b)-8]
	return peekAnswer{h, 0, len(b), impl.OK}
}

// variableAsked is a variable integer and the place behind it, 0 if b ends within it.
func variableAsked(b []byte, at int) (int, int) {
	if at >= len(b) {
		return 0, 0
	}
	n := []int{1, 2, 4, 8}[b[at]/64]
	if at+n > len(b) {
		return 0, 0
	}
	v := int(b[at] % 64)
	for _, c := range b[at+1 : at+n] {
		v = v*256 + int(c)
	}
	return v, at + n
}

func sameHeader(a, b impl.Header) bool {
	return a.Form == b.Form && a.Version == b.Version && bytes.Equal(a.Dst, b.Dst) && bytes.Equal(a.Src, b.Src) && bytes.Equal(a.Token, b.Token) && a.Num == b.Num && a.NumLen == b.NumLen && a.Phase == b.Phase
}

func checkPeek(t *testing.T, b []byte, cidLen int, want impl.Header, takes, code int) {
	t.Helper()
	h, n, gotCode := impl.Peek(b, cidLen)
	if !sameHeader(h, want) || n != takes || gotCode != code {
		t.Errorf("Peek(%x, %d) = %+v %d %d, want %+v %d %d", b[:min(len(b), 150)], cidLen, h, n, gotCode, want, takes, code)
	}
}

func checkPeekAsked(t *testing.T, b []byte, cidLen int) {
	t.Helper()
	want := peekAsked(b, cidLen)
	checkPeek(t, b, cidLen, want.h, want.takes, want.code)
}

func refusesPeek(t *testing.T, b []byte, cidLen, code int) {
	t.Helper()
	checkPeek(t, b, cidLen, impl.Header{}, 0, code)
}

// stripped is what Peek tells of a packet's header.
func stripped(h impl.Header) impl.Header {
	h.Num, h.NumLen, h.Phase = 0, 0, 0
	return h
}

// zeroes is n bytes 0.
func zeroes(n int) []byte { return make([]byte, n) }

// A packet of each form with its parts at the limits: what is told of it, and that what stands behind it is not of it.
func TestPeekOfEveryForm(t *testing.T) {
	for _, h := range edgeHeaders() {
		for _, behind := range []int{12, 13, 63, 64, 1507, 1508} {
			packet := join(headAsked(h, behind-h.NumLen), zeroes(behind-h.NumLen))
			checkPeek(t, packet, len(h.Dst), stripped(h), len(packet), impl.OK)
			takes, more := len(packet), join(packet, []byte{1, 2, 3})
			if h.Form == impl.FormShort {
				takes = len(more)
			}
			checkPeek(t, more, len(h.Dst), stripped(h), takes, impl.OK)
		}
	}
}

func TestPeekLongHeadsDoNotHangOnCidLen(t *testing.T) {
	for _, h := range plainHeaders()[:2] {
		packet := join(headAsked(h, 20), zeroes(20))
		for cidLen := range 9 {
			checkPeek(t, packet, cidLen, stripped(h), len(packet), impl.OK)
		}
	}
}

func TestPeekShort(t *testing.T) {
	for cidLen := range 9 {
		b := rowOf(1+cidLen+12, 3, 256)
		for first := 64; first < 128; first++ {
			b[0] = byte(first)
			checkPeek(t, b, cidLen, impl.Header{Form: impl.FormShort, Dst: b[1 : 1+cidLen]}, len(b), impl.OK)
			for n := 1; n < len(b); n++ {
				refusesPeek(t, b[:n], cidLen, impl.ErrShort)
			}
		}
		long := rowOf(impl.MaxBytes, 3, 256)
		long[0] = 64
		checkPeek(t, long, cidLen, impl.Header{Form: impl.FormShort, Dst: long[1 : 1+cidLen]}, impl.MaxBytes, impl.OK)
	}
}

func TestPeekLongest(t *testing.T) {
	for _, first := range []byte{0, 63, 64, 128, 192, 224, 240, 255} {
		b := zeroes(impl.MaxBytes + 1)
		b[0] = first
		checkPeekAsked(t, b[:impl.MaxBytes], 4)
		// Ahead of all other codes.
		for _, cidLen := range []int{4, -1, 9, math.MinInt, math.MaxInt} {
			refusesPeek(t, b, cidLen, impl.ErrLong)
		}
	}
	h := plainHeaders()[0]
	packet := join(headAsked(h, 20), zeroes(20))
	checkPeek(t, join(packet, zeroes(impl.MaxBytes-len(packet))), 4, stripped(h), len(packet), impl.OK)
	refusesPeek(t, join(packet, zeroes(impl.MaxBytes-len(packet)+1)), 4, impl.ErrLong)
}

// A wrong cidLen is found ahead of whatever is wrong with b, of long heads too.
func TestPeekWrongCidLen(t *testing.T) {
	rows := [][]byte{nil, {}, {0}, {63}, {64}, join([]byte{64}, zeroes(40)), {192, 0, 0, 0, 1, 9}, {129}}
	for _, h := range plainHeaders() {
		rows = append(rows, join(headAsked(h, 20), zeroes(20)))
	}
	for _, b := range rows {
		for _, cidLen := range []int{-1, 9, -2, 10, 256, 264, math.MinInt, math.MinInt + 1, math.MaxInt} {
			refusesPeek(t, b, cidLen, impl.ErrBad)
		}
	}
}

func TestPeekEmpty(t *testing.T) {
	refusesPeek(t, nil, 0, impl.ErrShort)
	refusesPeek(t, []byte{}, 8, impl.ErrShort)
}

// Each first byte ahead of a version and without one, and with what would be right behind each form.
func TestPeekEveryFirstByte(t *testing.T) {
	tails := [][]byte{
		nil,
		{0, 0, 0, 0, 0, 0},
		{0, 0, 0, 1, 0, 0},
		join([]byte{0, 0, 0, 0, 0, 0}, []byte{0, 0, 0, 1}),
		join([]byte{0, 0, 0, 1, 0, 0}, []byte{0, 12}, zeroes(12)),
		join([]byte{0, 0, 0, 1, 0, 0}, []byte{12}, zeroes(12)),
		join([]byte{0, 0, 0, 1, 2, 5, 6, 1, 7}, zeroes(60)),
		join([]byte{0, 0, 0, 1, 9}, zeroes(60)),
		join([]byte{0, 0, 0, 0, 0, 9}, zeroes(60)),
		join([]byte{0, 0, 0, 7, 0, 0}, bytes.Repeat([]byte{1}, 100)),
		bytes.Repeat([]byte{255}, 80),
	}
	for first := range 256 {
		for _, tail := range tails {
			b := join([]byte{byte(first)}, tail)
			for n := range len(b) + 1 {
				checkPeekAsked(t, b[:n], 2)
			}
		}
		if first < 64 {
			refusesPeek(t, []byte{byte(first)}, 0, impl.ErrForm)
			refusesPeek(t, join([]byte{byte(first)}, zeroes(90)), 0, impl.ErrForm)
		}
	}
}

// b cut off at every place: only where the head tells no length it is another packet.
func TestPeekCutOff(t *testing.T) {
	for _, h := range plainHeaders()[:2] {
		packet := join(headAsked(h, 20), zeroes(20))
		for n := range packet {
			refusesPeek(t, packet[:n], 2, impl.ErrShort)
		}
	}
	full := impl.Header{Form: impl.FormInitial, Version: maxVersion, Dst: rowOf(8, 1, 256), Src: rowOf(8, 2, 256), Token: rowOf(64, 3, 256), NumLen: 4}
	packet := join(headAsked(full, 1504), zeroes(1504))
	for n := range packet {
		refusesPeek(t, packet[:n], 2, impl.ErrShort)
	}
	checkPeek(t, packet, 2, stripped(full), len(packet), impl.OK)
}

func TestPeekLengths(t *testing.T) {
	start := []byte{192, 0, 0, 0, 1}
	for _, n := range []int{9, 10, 64, 128, 255} {
		// Above its limit is told ahead of the bytes that are not there.
		refusesPeek(t, join(start, []byte{byte(n)}), 0, impl.ErrForm)
		refusesPeek(t, join(start, []byte{byte(n)}, zeroes(300)), 0, impl.ErrForm)
		refusesPeek(t, join(start, []byte{1, 5, byte(n)}), 0, impl.ErrForm)
		refusesPeek(t, join(start, []byte{1, 5, byte(n)}, zeroes(300)), 0, impl.ErrForm)
	}
	// The first length that is too great is found ahead of a first byte or a version that begins nothing.
	refusesPeek(t, []byte{130, 0, 0, 0, 1, 9}, 0, impl.ErrForm)
	refusesPeek(t, []byte{130, 0, 0, 0, 1, 8, 1, 2}, 0, impl.ErrShort)
	refusesPeek(t, []byte{129, 0, 0, 0, 0, 0, 3, 1}, 0, impl.ErrShort)
	refusesPeek(t, []byte{208, 0, 0, 0, 1, 0}, 0, impl.ErrShort)
	refusesPeek(t, []byte{208, 0, 0, 0, 1, 0, 0}, 0, impl.ErrForm)
	refusesPeek(t, []byte{191, 0, 0, 0, 1, 0, 0}, 0, impl.ErrForm)
	refusesPeek(t, []byte{223, 255, 0, 0, 0, 0, 0}, 0, impl.ErrForm)
}

// Lengths of a token and of what stands behind, in each of the four forms of a variable integer.
func TestPeekVariableLengths(t *testing.T) {
	start := []byte{192, 0, 0, 0, 1, 0, 1, 7}
	for _, form := range []int{1, 2, 4, 8} {
		for _, count := range []int{0, 1, 63, 64, 65, 66, 1000} {
			if count > 63 && form == 1 {
				continue
			}
			token := rowOf(count, 3, 256)
			b := join(start, longVar(count, form), token, longVar(12, form), zeroes(12))
			for n := range b {
				checkPeekAsked(t, b[:n], 0)
			}
			if count > 64 {
				refusesPeek(t, b, 0, impl.ErrForm)
				refusesPeek(t, join(start, longVar(count, form)), 0, impl.ErrForm)
				continue
			}
			checkPeek(t, b, 0, impl.Header{Form: impl.FormInitial, Version: 1, Src: []byte{7}, Token: token}, len(b), impl.OK)
		}
		for _, behind := range []int{0, 1, 11, 12, 13, 1500, 1507, 1508, 1509, 1512, 16383} {
			if behind > 63 && form == 1 {
				continue
			}
			for _, head := range [][]byte{join(start, []byte{0}), {224, 0, 0, 0, 1, 0, 1, 7}} {
				counted := join(head, longVar(behind, form))
				if behind < 12 || behind > 1508 {
					refusesPeek(t, counted, 0, impl.ErrForm)
					refusesPeek(t, join(counted, zeroes(behind)), 0, impl.ErrForm)
					continue
				}
				refusesPeek(t, counted, 0, impl.ErrShort)
				refusesPeek(t, join(counted, zeroes(behind-1)), 0, impl.ErrShort)
				h, n, code := impl.Peek(join(counted, zeroes(behind+1)), 0)
				if n != len(counted)+behind || code != impl.OK || h.Version != 1 {
					t.Errorf("%d bytes behind, told in %d: %+v %d %d", behind, form, h, n, code)
				}
			}
		}
	}
	refusesPeek(t, join(start, longVar(maxVar, 8)), 0, impl.ErrForm)
	refusesPeek(t, join(start, []byte{0}, longVar(maxVar, 8)), 0, impl.ErrForm)
}

func TestPeekVersions(t *testing.T) {
	start := []byte{128, 0, 0, 0, 0, 1, 5, 2, 6, 7}
	want := impl.Header{Form: impl.FormVersions, Dst: []byte{5}, Src: []byte{6, 7}}
	for n := range 40 {
		b := join(start, bytes.Repeat([]byte{9}, n))
		if n%4 == 0 && n >= 4 && n <= 32 {
			checkPeek(t, b, 3, want, len(b), impl.OK)
		} else {
			refusesPeek(t, b, 3, impl.ErrForm)
		}
	}
	for count := 1; count <= 8; count++ {
		for zero := range count {
			b := join(start, bytes.Repeat([]byte{9}, 4*count))
			copy(b[len(start)+4*zero:], []byte{0, 0, 0, 0})
			refusesPeek(t, b, 3, impl.ErrForm)
			b[len(start)+4*zero+zero%4] = 1
			checkPeek(t, b, 3, want, len(b), impl.OK)
		}
	}
	for first := 129; first < 256; first++ {
		b := join(start, []byte{0, 0, 0, 1})
		b[0] = byte(first)
		refusesPeek(t, b, 3, impl.ErrForm)
	}
}

func TestPeekRetry(t *testing.T) {
	for first := 240; first < 256; first++ {
		start := []byte{byte(first), 0, 0, 1, 0, 0, 1, 6}
		for n := range 9 {
			refusesPeek(t, join(start, zeroes(n)), 0, impl.ErrShort)
		}
		for _, count := range []int{1, 2, 63, 64} {
			token := rowOf(count, 7, 256)
			b := join(start, token, rowOf(8, 1, 256))
			checkPeek(t, b, 0, impl.Header{Form: impl.FormRetry, Version: 256, Src: []byte{6}, Token: token}, len(b), impl.OK)
		}
		for _, count := range []int{65, 66, 1000} {
			refusesPeek(t, join(start, zeroes(count+8)), 0, impl.ErrForm)
		}
	}
}

func TestPeekDrawn(t *testing.T) {
	more := numbers(62)
	firsts := []byte{64, 100, 128, 192, 195, 224, 239, 240, 255, 208, 140}
	for range 30000 {
		b := more.bytes(more.below(60))
		for i := range b {
			// Small numbers are met where lengths stand.
			if more.below(3) > 0 {
				b[i] = byte(more.below(14))
			}
		}
		if len(b) > 0 {
			b[0] = firsts[more.below(len(firsts))]
		}
		checkPeekAsked(t, b, more.below(10)-1)
	}
	for range 3000 {
		h := drawnHeader(&more)
		b := join(headAsked(h, 12+more.below(40)), more.bytes(12+more.below(60)))
		b[more.below(len(b))] = byte(more.next())
		checkPeekAsked(t, b, more.below(9))
	}
}

func checkSplit(t *testing.T, b []byte, cidLen int, want [][]byte) {
	t.Helper()
	if got := impl.SplitDatagram(b, cidLen); !slices.EqualFunc(got, want, bytes.Equal) {
		t.Errorf("SplitDatagram(%d bytes, %d) = %d packets %x, want %d %x", len(b), cidLen, len(got), got, len(want), want)
	}
}

// drawnPackets are long packets and, at the end, perhaps one that takes all.
func drawnPackets(more *numbers, k impl.Keys, count int) ([]impl.Header, [][]byte, [][]byte) {
	var heads []impl.Header
	var bodies, packets [][]byte
	for len(heads) < count {
		h, body := drawnHeader(more), more.bytes(4+more.below(30))
		if h.Form == impl.FormShort && len(heads) < count-1 {
			continue
		}
		heads, bodies, packets = append(heads, h), append(bodies, body), append(packets, protectAsked(k, h, body))
	}
	return heads, bodies, packets
}

func TestP4SplitGivesThePacketsBack(t *testing.T) {
	more := numbers(63)
	for count := 1; count <= 20; count++ {
		k := keysAsked(more.bytes(16))
		heads, bodies, packets := drawnPackets(&more, k, count)
		datagram := join(packets...)
		last := heads[count-1]
		got := impl.SplitDatagram(datagram, len(last.Dst))
		want := packets[:min(count, 16)]
		if !slices.EqualFunc(got, want, bytes.Equal) {
			t.Fatalf("%d packets are parted into %d", count, len(got))
		}
		for i, packet := range got {
			checkOpenPacket(t, k, packet, len(heads[i].Dst), max(heads[i].Num-1, -1), heads[i], bodies[i], impl.OK)
		}
		// The first one as it stands ahead of the others.
		checkOpenPacket(t, k, datagram, len(heads[0].Dst), max(heads[0].Num-1, -1), heads[0], bodies[0], impl.OK)
	}
}

func TestSplitAtMostMaxCoalesced(t *testing.T) {
	one := join([]byte{224, 0, 0, 0, 1, 0, 0, 12}, rowOf(12, 9, 256))
	short := join([]byte{64}, rowOf(20, 9, 256))
	for count := range 20 {
		packets := slices.Repeat([][]byte{one}, count)
		checkSplit(t, join(packets...), 0, packets[:min(count, 16)])
		packets = append(packets, short)
		checkSplit(t, join(packets...), 0, packets[:min(count+1, 16)])
		packets[count] = []byte{1, 2, 3}
		checkSplit(t, join(packets...), 0, packets[:min(count, 16)])
	}
}

func TestSplitStops(t *testing.T) {
	one := join([]byte{224, 0, 0, 0, 1, 0, 0, 12}, rowOf(12, 9, 256))
	short := join([]byte{64, 5}, rowOf(30, 9, 256))
	versions := []byte{128, 0, 0, 0, 0, 0, 0, 0, 0, 0, 1}
	checkSplit(t, nil, 0, nil)
	checkSplit(t, []byte{}, 0, nil)
	checkSplit(t, []byte{63}, 0, nil)
	checkSplit(t, join(one, one), 1, [][]byte{one, one})
	checkSplit(t, join(one, short), 1, [][]byte{one, short})
	checkSplit(t, join(short, one), 1, [][]byte{join(short, one)})
	checkSplit(t, join(one, versions), 1, [][]byte{one, versions})
	checkSplit(t, join(versions, one), 1, [][]byte{join(versions, one)})
	checkSplit(t, join(versions, short), 1, nil)
	checkSplit(t, join(one, []byte{0}, one), 1, [][]byte{one})
	checkSplit(t, join(one, one[:19]), 1, [][]byte{one})
	checkSplit(t, join(one, short[:13]), 1, [][]byte{one})
	checkSplit(t, join(one, short[:14]), 1, [][]byte{one, short[:14]})
	for n := range one {
		checkSplit(t, one[:n], 1, nil)
	}
	for _, cidLen := range []int{-1, 9, 10, -8, 256, math.MinInt, math.MaxInt} {
		checkSplit(t, join(one, short), cidLen, nil)
		checkSplit(t, one, cidLen, nil)
	}
	long := join(one, zeroes(impl.MaxBytes-len(one)+1))
	checkSplit(t, long[:impl.MaxBytes], 1, [][]byte{one})
	checkSplit(t, long, 1, nil)
	long[len(one)] = 64
	checkSplit(t, long[:impl.MaxBytes], 1, [][]byte{one, long[len(one):impl.MaxBytes]})
	checkSplit(t, long, 1, nil)
}

func TestP1PeekTakesAnyIntegers(t *testing.T) {
	h := plainHeaders()[0]
	rows := [][]byte{nil, {64}, join([]byte{70}, zeroes(40)), join(headAsked(h, 20), zeroes(20))}
	for _, v := range append(oddInts(), 0, -1, 9) {
		for _, b := range rows {
			mustEnd(t, fmt.Sprintf("cidLen %d", v), func() {
				checkPeekAsked(t, b, v)
				impl.SplitDatagram(b, v)
			})
		}
	}
}
