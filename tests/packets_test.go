package tests

import (
	"bytes"
	"fmt"
	"math"
	"slices"
	"testing"

	"loop.example/g00012/impl"
)

const maxVersion = 4294967295

func TestPacketLimits(t *testing.T) {
	for _, c := range [][2]int{
		{impl.MaxCid, 8}, {impl.MaxToken, 64}, {impl.MaxVersions, 8}, {impl.MaxCoalesced, 16}, {impl.MinBehind, 12}, {impl.ResetBytes, 21},
		{impl.FormInitial, 1}, {impl.FormHandshake, 2}, {impl.FormRetry, 3}, {impl.FormShort, 4}, {impl.FormVersions, 5},
	} {
		if c[0] != c[1] {
			t.Errorf("a limit or a form is %d, want %d", c[0], c[1])
		}
	}
}

// headerOKAsked is what the chapter calls a valid header.
func headerOKAsked(h impl.Header) bool {
	if !inRange(h.Num, 0, maxVar) || !inRange(h.NumLen, 1, 4) || len(h.Dst) > 8 {
		return false
	}
	long := inRange(h.Version, 1, maxVersion) && len(h.Src) <= 8 && h.Phase == 0
	switch h.Form {
	case 1:
		return long && len(h.Token) <= 64
	case 2:
		return long && len(h.Token) == 0
	case 4:
		return h.Version == 0 && len(h.Src) == 0 && len(h.Token) == 0 && inRange(h.Phase, 0, 1)
	}
	return false
}

func lengthAhead(list []byte) []byte { return join([]byte{byte(len(list))}, list) }

// twoBytes is a variable integer in its form of two bytes.
func twoBytes(v int) []byte { return []byte{byte(64 + v/256), byte(v % 256)} }

// headAsked is the head of a valid header, byte by byte as the chapter tells it.
func headAsked(h impl.Header, n int) []byte {
	number := fourBytes(uint64(h.Num % windowOf(h.NumLen)))[4-h.NumLen:]
	if h.Form == impl.FormShort {
		return join([]byte{byte(64 + 4*h.Phase + h.NumLen - 1)}, h.Dst, number)
	}
	first, token := 192+h.NumLen-1, []byte(nil)
	if h.Form == impl.FormHandshake {
		first += 32
	} else {
		token = join(varBytes(len(h.Token)), h.Token)
	}
	return join([]byte{byte(first)}, fourBytes(uint64(h.Version)), lengthAhead(h.Dst), lengthAhead(h.Src), token, twoBytes(h.NumLen+n), number)
}

// maskAsked lays the mask over the head of a packet whose number begins at numberAt; the sample is the eight bytes four behind that.
func maskAsked(k impl.Keys, packet []byte, numberAt, numLen int) []byte {
	out := slices.Clone(packet)
	mask := digestAsked(k.Mask, packet[numberAt+4:numberAt+12])[:5]
	if packet[0] >= 128 {
		out[0] ^= mask[0] % 16
	} else {
		out[0] ^= mask[0] % 32
	}
	for i := range numLen {
		out[numberAt+i] ^= mask[1+i]
	}
	return out
}

// protectAsked is the packet of a valid header.
func protectAsked(k impl.Keys, h impl.Header, body []byte) []byte {
	head := headAsked(h, len(body)+8)
	packet := join(head, sealAsked(k, h.Num, head, body))
	return maskAsked(k, packet, len(head)-h.NumLen, h.NumLen)
}

func protectCodeAsked(h impl.Header, body []byte) int {
	switch {
	case !headerOKAsked(h):
		return impl.ErrBad
	case h.NumLen+len(body) < 4:
		return impl.ErrShort
	case len(headAsked(h, len(body)+8))+len(body) > 1500:
		return impl.ErrLong
	}
	return impl.OK
}

func checkHead(t *testing.T, h impl.Header, n int, want []byte, code int) {
	t.Helper()
	if got, gotCode := impl.HeadBytes(h, n); gotCode != code || !bytes.Equal(got, want) {
		t.Errorf("HeadBytes(%+v, %d) = %v %d, want %v %d", h, n, got, gotCode, want, code)
	}
}

func checkProtect(t *testing.T, k impl.Keys, h impl.Header, body, want []byte, code int) {
	t.Helper()
	if got, gotCode := impl.ProtectPacket(k, h, body); gotCode != code || !bytes.Equal(got, want) {
		t.Errorf("ProtectPacket of %+v and %d bytes = %x %d, want %x %d", h, len(body), got, gotCode, want, code)
	}
}

func TestHeadBytesWrittenOut(t *testing.T) {
	eight := []byte{1, 2, 3, 4, 5, 6, 7, 8}
	token := rowOf(64, 1, 256)
	initial := impl.Header{Form: impl.FormInitial, Version: 0x01020304, Dst: []byte{10, 11}, Src: []byte{12}, Token: []byte{13, 14, 15}, Num: 0x9a8b7c6d5e, NumLen: 3}
	checkHead(t, initial, 100, []byte{194, 1, 2, 3, 4, 2, 10, 11, 1, 12, 3, 13, 14, 15, 64, 103, 0x7c, 0x6d, 0x5e}, impl.OK)
	initial = impl.Header{Form: impl.FormInitial, Version: maxVersion, Dst: eight, Src: eight, Token: token, Num: maxVar, NumLen: 4}
	checkHead(t, initial, 1508, join([]byte{195, 255, 255, 255, 255, 8}, eight, []byte{8}, eight, []byte{64, 64}, token, []byte{64 + 5, 232, 255, 255, 255, 255}), impl.OK)
	initial.Token = token[:63]
	checkHead(t, initial, 8, join([]byte{195, 255, 255, 255, 255, 8}, eight, []byte{8}, eight, []byte{63}, token[:63], []byte{64, 12, 255, 255, 255, 255}), impl.OK)
	initial = impl.Header{Form: impl.FormInitial, Version: 1, NumLen: 1}
	checkHead(t, initial, 8, []byte{192, 0, 0, 0, 1, 0, 0, 0, 64, 9, 0}, impl.OK)
	handshake := impl.Header{Form: impl.FormHandshake, Version: 1, Src: eight, Num: 0x1ff, NumLen: 2}
	checkHead(t, handshake, 300, join([]byte{225, 0, 0, 0, 1, 0, 8}, eight, []byte{64 + 1, 46, 1, 255}), impl.OK)
	short := impl.Header{Form: impl.FormShort, Dst: eight, Num: 0x1020304, NumLen: 4, Phase: 1}
	checkHead(t, short, 1508, join([]byte{71}, eight, []byte{1, 2, 3, 4}), impl.OK)
	short = impl.Header{Form: impl.FormShort, Num: 0x1020304, NumLen: 1}
	checkHead(t, short, 8, []byte{64, 4}, impl.OK)
}

// edgeHeaders are valid ones at the limits that the chapter names, each with each.
func edgeHeaders() []impl.Header {
	var list []impl.Header
	for numLen := 1; numLen <= 4; numLen++ {
		for _, num := range []int{0, 0x123456789a, maxVar} {
			for _, count := range []int{0, 1, 8} {
				dst := rowOf(count, 7, 256)
				for phase := range 2 {
					list = append(list, impl.Header{Form: impl.FormShort, Dst: dst, Num: num, NumLen: numLen, Phase: phase})
				}
				for _, version := range []int{1, 0x10203040, maxVersion} {
					src := rowOf(8-count, 9, 256)
					list = append(list, impl.Header{Form: impl.FormHandshake, Version: version, Dst: dst, Src: src, Num: num, NumLen: numLen})
					for _, tokenLen := range []int{0, 1, 63, 64} {
						token := rowOf(tokenLen, 11, 256)
						list = append(list, impl.Header{Form: impl.FormInitial, Version: version, Dst: dst, Src: src, Token: token, Num: num, NumLen: numLen})
					}
				}
			}
		}
	}
	return list
}

func TestHeadBytesEdges(t *testing.T) {
	for _, h := range edgeHeaders() {
		for _, n := range []int{8, 9, 59, 60, 63, 64, 255, 256, 300, 1507, 1508} {
			checkHead(t, h, n, headAsked(h, n), impl.OK)
		}
		for _, n := range []int{7, 0, -1, -8, 1509, 1510, 16383, 16384, math.MinInt, math.MaxInt} {
			checkHead(t, h, n, nil, impl.ErrBad)
		}
	}
}

// plainHeaders are one valid header of each form.
func plainHeaders() []impl.Header {
	return []impl.Header{
		{Form: impl.FormInitial, Version: 1, Dst: []byte{1, 2}, Src: []byte{3}, Token: []byte{4, 5}, Num: 300, NumLen: 2},
		{Form: impl.FormHandshake, Version: 1, Dst: []byte{1, 2}, Src: []byte{3}, Num: 300, NumLen: 2},
		{Form: impl.FormShort, Dst: []byte{1, 2}, Num: 300, NumLen: 2, Phase: 1},
	}
}

// wrongHeaders are headers of which one part is not valid, each in its turn.
func wrongHeaders() []impl.Header {
	var list []impl.Header
	add := func(h impl.Header, change func(h *impl.Header)) {
		change(&h)
		list = append(list, h)
	}
	for _, h := range plainHeaders() {
		for _, v := range append(wrongNums(), 1<<62+5) {
			add(h, func(h *impl.Header) { h.Num = v })
		}
		for _, v := range []int{0, 5, 6, -1, -4, 8, 257, math.MinInt, math.MaxInt} {
			add(h, func(h *impl.Header) { h.NumLen = v })
		}
		for _, v := range []int{2, 3, -1, 4, 256, math.MinInt, math.MaxInt} {
			add(h, func(h *impl.Header) { h.Phase = v })
		}
		for _, v := range []int{0, 3, 5, 6, -1, 7, 257, math.MinInt, math.MaxInt} {
			add(h, func(h *impl.Header) { h.Form = v })
		}
		for _, n := range []int{9, 10, 256, 264, impl.MaxBytes + 1} {
			add(h, func(h *impl.Header) { h.Dst = rowOf(n, 1, 256) })
			add(h, func(h *impl.Header) { h.Src = rowOf(n, 1, 256) })
		}
		for _, n := range []int{65, 66, 256, 320, impl.MaxBytes + 1} {
			add(h, func(h *impl.Header) { h.Token = rowOf(n, 1, 256) })
		}
		for _, v := range []int{-1, 1 << 32, 1<<32 + 1, math.MinInt, math.MaxInt} {
			add(h, func(h *impl.Header) { h.Version = v })
		}
		if h.Form == impl.FormShort {
			add(h, func(h *impl.Header) { h.Version = 1 })
			add(h, func(h *impl.Header) { h.Src = []byte{1} })
			add(h, func(h *impl.Header) { h.Token = []byte{1} })
			continue
		}
		add(h, func(h *impl.Header) { h.Version = 0 })
		add(h, func(h *impl.Header) { h.Phase = 1 })
		if h.Form == impl.FormHandshake {
			add(h, func(h *impl.Header) { h.Token = []byte{1} })
		}
	}
	return append(list, impl.Header{})
}

func TestWrongHeaders(t *testing.T) {
	k := keysAsked(countedSecret())
	for _, h := range wrongHeaders() {
		if headerOKAsked(h) {
			t.Errorf("%+v is valid", h)
		}
		checkHead(t, h, 20, nil, impl.ErrBad)
		checkHead(t, h, 7, nil, impl.ErrBad)
		checkHead(t, h, math.MaxInt, nil, impl.ErrBad)
		// Ahead of a body that is too short or too long.
		for _, count := range []int{0, 20, 1600, impl.MaxBytes + 1} {
			checkProtect(t, k, h, rowOf(count, 1, 256), nil, impl.ErrBad)
		}
	}
}

func TestP4PacketsKnown(t *testing.T) {
	k := keysAsked(countedSecret())
	for _, c := range []struct {
		h    impl.Header
		body string
		want string
	}{
		{impl.Header{Form: impl.FormInitial, Version: 1, Dst: []byte{1, 2, 3}, Src: []byte{9}, Token: []byte("token"), Num: 0x1234567, NumLen: 3}, "hello there",
			"c20000000103010203010905746f6b656e401666a6e23f51dc4147e95a8e54ce777c99bfcf60e4bbfb"},
		{impl.Header{Form: impl.FormInitial, Version: maxVersion, Dst: rowOf(8, 1, 256), Src: rowOf(16, 1, 256)[8:], Token: rowOf(64, 1, 256), Num: maxVar, NumLen: 4}, "",
			"ceffffffff0800010203040506070808090a0b0c0d0e0f4040000102030405060708090a0b0c0d0e0f101112131415161718191a1b1c1d1e1f202122232425262728292a2b2c2d2e2f303132333435363738393a3b3c3d3e3f400c613742c6e8ac1239c1265f01"},
		{impl.Header{Form: impl.FormHandshake, Version: 0x01020304, Src: []byte{7, 8}, NumLen: 1}, "abc", "e00102030400020708400cbcf1b4260835dfec0af7baf2"},
		{impl.Header{Form: impl.FormShort, Dst: []byte{5, 6}, Num: 0xa1b2c3d4e5, NumLen: 1, Phase: 1}, "wxyz", "40050642a2ce129d26881539828f68a3"},
		{impl.Header{Form: impl.FormShort, Dst: []byte{5, 6}, Num: 0xa1b2c3d4e5, NumLen: 2}, "wxyz", "550506c2d2a2ce129d9ab79f4bbff07883"},
		{impl.Header{Form: impl.FormShort, Dst: []byte{5, 6}, Num: 0xa1b2c3d4e5, NumLen: 3, Phase: 1}, "wxyz", "41050611f638a2ce129db5e0f79205681168"},
		{impl.Header{Form: impl.FormShort, Dst: []byte{5, 6}, Num: 0xa1b2c3d4e5, NumLen: 4}, "wxyz", "45050673371140a2ce129d0167d53d2c530154"},
	} {
		want := unhex(t, c.want)
		checkProtect(t, k, c.h, []byte(c.body), want, impl.OK)
		checkOpenPacket(t, k, want, len(c.h.Dst), max(c.h.Num-1, -1), c.h, []byte(c.body), impl.OK)
		if asked := protectAsked(k, c.h, []byte(c.body)); !bytes.Equal(asked, want) {
			t.Errorf("the rule as the tests have it gives %x, want %x", asked, want)
		}
	}
}

func TestP4ProtectEdges(t *testing.T) {
	k := keysAsked(countedSecret())
	for i, h := range edgeHeaders() {
		body := rowOf(4-h.NumLen+i%40, 13, 256)
		checkProtect(t, k, h, body, protectAsked(k, h, body), impl.OK)
	}
}

func TestProtectShortest(t *testing.T) {
	k := keysAsked(countedSecret())
	for _, h := range plainHeaders() {
		for h.NumLen = 1; h.NumLen <= 4; h.NumLen++ {
			for count := range 5 {
				body := rowOf(count, 1, 256)
				if h.NumLen+count < 4 {
					checkProtect(t, k, h, body, nil, impl.ErrShort)
					continue
				}
				checkProtect(t, k, h, body, protectAsked(k, h, body), impl.OK)
			}
		}
	}
}

func TestProtectLongest(t *testing.T) {
	k := keysAsked(countedSecret())
	for _, h := range plainHeaders() {
		for h.NumLen = 1; h.NumLen <= 4; h.NumLen++ {
			most := 1500 - len(headAsked(h, 8))
			body := rowOf(most+1, 3, 256)
			checkProtect(t, k, h, body[:most], protectAsked(k, h, body[:most]), impl.OK)
			checkProtect(t, k, h, body, nil, impl.ErrLong)
			for _, count := range []int{1499, 1500, 1501, 1508, 1509, 16383, 16384, impl.MaxBytes, impl.MaxBytes + 1} {
				checkProtect(t, k, h, rowOf(count, 3, 256), nil, impl.ErrLong)
			}
		}
	}
}

func TestProtectWrongKeys(t *testing.T) {
	for _, k := range wrongKeys() {
		for _, h := range append(plainHeaders(), impl.Header{}) {
			for _, count := range []int{0, 20, 1600, impl.MaxBytes + 1} {
				checkProtect(t, k, h, rowOf(count, 1, 256), nil, impl.ErrBad)
			}
		}
	}
}

// The sample is told by its place in the sealed body here, not by that of the number as in maskAsked.
func TestPlaceOfTheSample(t *testing.T) {
	k := keysAsked(countedSecret())
	for _, h := range plainHeaders() {
		for h.NumLen = 1; h.NumLen <= 4; h.NumLen++ {
			body := rowOf(30, 5, 256)
			packet, code := impl.ProtectPacket(k, h, body)
			head := headAsked(h, len(body)+8)
			if code != impl.OK || len(packet) != len(head)+len(body)+8 {
				t.Fatalf("ProtectPacket = %d bytes, %d", len(packet), code)
			}
			sealed := packet[len(head):]
			mask := impl.HeadMask(k, sealed[4-h.NumLen:12-h.NumLen])
			low := byte(15)
			if h.Form == impl.FormShort {
				low = 31
			}
			want := slices.Clone(head)
			want[0] ^= mask[0] & low
			for i := range h.NumLen {
				want[len(head)-h.NumLen+i] ^= mask[1+i]
			}
			if !bytes.Equal(packet[:len(head)], want) {
				t.Errorf("form %d, NumLen %d: the head is masked to %v, want %v", h.Form, h.NumLen, packet[:len(head)], want)
			}
		}
	}
}

// The mask leaves the bits that tell the form as they are, whatever it is.
func TestMaskLeavesTheForm(t *testing.T) {
	more := numbers(60)
	seen := map[byte]int{}
	for range 400 {
		k := keysAsked(more.bytes(16))
		for _, h := range plainHeaders() {
			packet, code := impl.ProtectPacket(k, h, []byte("body"))
			if code != impl.OK {
				t.Fatalf("ProtectPacket: %d", code)
			}
			seen[packet[0]]++
		}
	}
	for first := range 256 {
		_, ok := seen[byte(first)]
		want := inRange(first, 64, 95) || inRange(first, 192, 207) || inRange(first, 224, 239)
		if ok != want {
			t.Errorf("a first byte %d was seen: %v, want %v", first, ok, want)
		}
	}
}

func drawnHeader(more *numbers) impl.Header {
	h := impl.Header{Form: []int{impl.FormInitial, impl.FormHandshake, impl.FormShort}[more.below(3)], Num: more.variable(), NumLen: 1 + more.below(4), Dst: more.bytes(more.below(9))}
	if h.Form == impl.FormShort {
		h.Phase = more.below(2)
		return h
	}
	h.Version = 1 + more.below(maxVersion)
	h.Src = more.bytes(more.below(9))
	if h.Form == impl.FormInitial {
		h.Token = more.bytes(more.below(65))
	}
	return h
}

func TestProtectDrawn(t *testing.T) {
	more := numbers(61)
	for range 600 {
		k, h := keysAsked(more.bytes(16)), drawnHeader(&more)
		body := more.bytes(more.below(120))
		code, want := protectCodeAsked(h, body), []byte(nil)
		if code == impl.OK {
			want = protectAsked(k, h, body)
		}
		checkProtect(t, k, h, body, want, code)
		n := more.below(1600)
		if inRange(n, 8, 1508) {
			checkHead(t, h, n, headAsked(h, n), impl.OK)
		} else {
			checkHead(t, h, n, nil, impl.ErrBad)
		}
	}
}

func TestP1HeadersTakeAnyIntegers(t *testing.T) {
	k := keysAsked(countedSecret())
	body := []byte("a body")
	for _, v := range append(oddInts(), maxVar-1, maxVar, maxVar+1, 0, -1, 5, 6, 1507, 1508, 1509) {
		for _, plain := range plainHeaders() {
			for part := range 5 {
				h := plain
				*[]*int{&h.Form, &h.Version, &h.Num, &h.NumLen, &h.Phase}[part] = v
				mustEnd(t, fmt.Sprintf("part %d as %d", part, v), func() {
					if headerOKAsked(h) {
						checkHead(t, h, 14, headAsked(h, 14), impl.OK)
						checkProtect(t, k, h, body, protectAsked(k, h, body), impl.OK)
					} else {
						checkHead(t, h, 14, nil, impl.ErrBad)
						checkProtect(t, k, h, body, nil, impl.ErrBad)
					}
				})
			}
			mustEnd(t, fmt.Sprintf("HeadBytes of %d bytes", v), func() {
				if inRange(v, 8, 1508) {
					checkHead(t, plain, v, headAsked(plain, v), impl.OK)
				} else {
					checkHead(t, plain, v, nil, impl.ErrBad)
				}
			})
		}
	}
}
