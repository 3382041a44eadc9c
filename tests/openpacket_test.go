package tests

import (
	"bytes"
	"fmt"
	"math"
	"slices"
	"testing"

	"loop.example/g00012/impl"
)

// openAsked is the chapter's rule of OpenPacket, word by word.
func openAsked(k impl.Keys, b []byte, cidLen, largest int) (impl.Header, []byte, int) {
	if len(b) > 65536 {
		return impl.Header{}, nil, impl.ErrLong
	}
	validKeys := len(k.Secret) == 16 && len(k.Key) == 16 && len(k.Iv) == 8 && len(k.Mask) == 16
	if !validKeys || !inRange(cidLen, 0, 8) || !inRange(largest, -1, maxVar) {
		return impl.Header{}, nil, impl.ErrBad
	}
	p := peekAsked(b, cidLen)
	if p.code != impl.OK {
		return impl.Header{}, nil, p.code
	}
	if p.h.Form == impl.FormRetry || p.h.Form == impl.FormVersions {
		return impl.Header{}, nil, impl.ErrForm
	}
	packet := b[:p.takes]
	h, first := p.h, maskAsked(k, packet, p.numberAt, 0)[0]
	h.NumLen = 1 + int(first)%4
	packet = maskAsked(k, packet, p.numberAt, h.NumLen)
	cut := 0
	for _, v := range packet[p.numberAt : p.numberAt+h.NumLen] {
		cut = cut*256 + int(v)
	}
	idle := first / 4 % 4
	if h.Form == impl.FormShort {
		h.Phase, idle = int(first)/4%2, first/8%4
	}
	h.Num = expandNumAsked(largest, cut, h.NumLen)
	if h.Num == -1 {
		return impl.Header{}, nil, impl.ErrForm
	}
	if len(packet) > 1508 {
		return impl.Header{}, nil, impl.ErrLong
	}
	head, sealed := packet[:p.numberAt+h.NumLen], packet[p.numberAt+h.NumLen:]
	// The stream laid over once more is the body; it is that if it is sealed to the same.
	covered := sealed[:len(sealed)-8]
	body := sealAsked(k, h.Num, head, covered)[:len(covered)]
	if !bytes.Equal(sealAsked(k, h.Num, head, body), sealed) {
		return impl.Header{}, nil, impl.ErrKey
	}
	if idle != 0 {
		return impl.Header{}, nil, impl.ErrForm
	}
	return h, body, impl.OK
}

func checkOpenPacket(t *testing.T, k impl.Keys, b []byte, cidLen, largest int, want impl.Header, body []byte, code int) {
	t.Helper()
	h, got, gotCode := impl.OpenPacket(k, b, cidLen, largest)
	if !sameHeader(h, want) || !bytes.Equal(got, body) || gotCode != code {
		t.Errorf("OpenPacket(%x, %d, %d) = %+v %x %d, want %+v %x %d", b[:min(len(b), 150)], cidLen, largest, h, got, gotCode, want, body, code)
	}
}

func refusesPacket(t *testing.T, k impl.Keys, b []byte, cidLen, largest, code int) {
	t.Helper()
	checkOpenPacket(t, k, b, cidLen, largest, impl.Header{}, nil, code)
}

func checkOpenPacketAsked(t *testing.T, k impl.Keys, b []byte, cidLen, largest int) int {
	t.Helper()
	h, body, code := openAsked(k, b, cidLen, largest)
	checkOpenPacket(t, k, b, cidLen, largest, h, body, code)
	return code
}

// rawPacket seals and masks any head whose number stands at its end: of one that the program would not write too.
func rawPacket(k impl.Keys, num int, head, body []byte, numLen int) []byte {
	return maskAsked(k, join(head, sealAsked(k, num, head, body)), len(head)-numLen, numLen)
}

// checkThere asks for header and body back, alone and ahead of other bytes.
func checkThere(t *testing.T, k impl.Keys, h impl.Header, body []byte, largest int) {
	t.Helper()
	packet, code := impl.ProtectPacket(k, h, body)
	if code != impl.OK {
		t.Errorf("ProtectPacket(%+v, %d bytes): %d", h, len(body), code)
		return
	}
	checkOpenPacket(t, k, packet, len(h.Dst), largest, h, body, impl.OK)
	if h.Form != impl.FormShort {
		checkOpenPacket(t, k, join(packet, packet), 8-len(h.Dst), largest, h, body, impl.OK)
		checkOpenPacket(t, k, join(packet, []byte{0}), 8-len(h.Dst), largest, h, body, impl.OK)
	}
}

func TestP4PacketsOpenAgain(t *testing.T) {
	k := impl.KeysOf(countedSecret())
	for i, h := range edgeHeaders() {
		body := rowOf(4-h.NumLen+i%50, 13, 256)
		checkThere(t, k, h, body, max(h.Num-1, -1))
		checkThere(t, k, h, body, h.Num)
	}
	for _, h := range plainHeaders() {
		for h.NumLen = 1; h.NumLen <= 4; h.NumLen++ {
			for _, count := range []int{4 - h.NumLen, 5 - h.NumLen, 100, 1499 - len(headAsked(h, 8)), 1500 - len(headAsked(h, 8))} {
				checkThere(t, k, h, rowOf(count, 7, 256), h.Num-1)
			}
		}
	}
}

func TestP4PacketsDrawn(t *testing.T) {
	more := numbers(64)
	for range 1500 {
		k, h := impl.KeysOf(more.bytes(16)), drawnHeader(&more)
		for range more.below(3) {
			k = impl.NextKeys(k)
		}
		half := windowOf(h.NumLen) / 2
		low, high := max(h.Num-half, -1), min(h.Num+half-2, maxVar)
		checkThere(t, k, h, more.bytes(4+more.below(100)), low+more.below(high-low+1))
	}
}

// The number of a packet is told rightly at both ends of the promise, and where it lies.
func TestP3PacketsAreToldRightly(t *testing.T) {
	more := numbers(65)
	k := impl.KeysOf(countedSecret())
	for n := 1; n <= 4; n++ {
		w := windowOf(n)
		for _, distance := range []int{1, 2, w/512 + 1, w/2 - 1, w / 2} {
			for _, acked := range []int{-1, 0, w/2 - 1, w - 1, 5*w - 1, more.variable() / 2, maxVar - distance - w, maxVar - distance} {
				num := acked + distance
				for _, h := range plainHeaders() {
					h.Num, h.NumLen = num, impl.NumBytes(num, acked)
					for _, largest := range greatestGot(num, acked, h.NumLen, &more) {
						checkThere(t, k, h, []byte("body"), largest)
					}
				}
			}
		}
	}
}

// Beyond the window another number is meant, with which it does not open.
func TestOpenPacketAnotherLargest(t *testing.T) {
	k := impl.KeysOf(countedSecret())
	for _, h := range plainHeaders() {
		for h.NumLen = 1; h.NumLen <= 4; h.NumLen++ {
			w := windowOf(h.NumLen)
			h.Num = 3*w + 7
			packet := protectAsked(k, h, []byte("body"))
			for _, largest := range []int{-1, 0, h.Num - w, h.Num - w/2 - 1, h.Num - w/2, h.Num - 1, h.Num, h.Num + w/2 - 1, h.Num + w/2, h.Num + w/2 + 1, h.Num + w, maxVar} {
				checkOpenPacketAsked(t, k, packet, 2, largest)
			}
			refusesPacket(t, k, packet, 2, h.Num+w/2, impl.ErrKey)
			refusesPacket(t, k, packet, 2, h.Num-w/2-2, impl.ErrKey)
			refusesPacket(t, k, packet, 2, h.Num+w, impl.ErrKey)
			refusesPacket(t, k, packet, 2, -1, impl.ErrKey)
		}
	}
}

// Behind the greatest number there is none: one that would be meant there is no packet's.
func TestOpenPacketNumberThatIsNone(t *testing.T) {
	k := impl.KeysOf(countedSecret())
	for _, h := range plainHeaders() {
		for h.NumLen = 1; h.NumLen <= 4; h.NumLen++ {
			for _, low := range []int{0, 1, windowOf(h.NumLen) / 2} {
				h.Num = low
				packet := protectAsked(k, h, []byte("body"))
				refusesPacket(t, k, packet, 2, maxVar, impl.ErrForm)
				// Ahead of what OpenSealed would find.
				packet[len(packet)-1] ^= 1
				refusesPacket(t, k, packet, 2, maxVar, impl.ErrForm)
				if h.Form == impl.FormShort {
					refusesPacket(t, k, join(packet, zeroes(1600)), 2, maxVar, impl.ErrForm)
				}
			}
			h.Num = maxVar
			checkThere(t, k, h, []byte("body"), maxVar)
		}
	}
}

func TestOpenPacketWrongArguments(t *testing.T) {
	good := impl.KeysOf(countedSecret())
	rows := [][]byte{nil, {0}, {64}, {128, 0, 0, 0, 0, 0, 0, 0, 0, 0, 1}, join([]byte{240, 0, 0, 0, 1, 0, 0}, zeroes(20))}
	for _, h := range plainHeaders() {
		rows = append(rows, protectAsked(good, h, []byte("body")))
	}
	for _, b := range rows {
		for _, k := range wrongKeys() {
			refusesPacket(t, k, b, 2, 299, impl.ErrBad)
			refusesPacket(t, k, b, -1, maxVar+1, impl.ErrBad)
		}
		for _, cidLen := range []int{-1, 9, -2, 256, math.MinInt, math.MaxInt} {
			refusesPacket(t, good, b, cidLen, 299, impl.ErrBad)
		}
		for _, largest := range []int{-2, -3, maxVar + 1, maxVar + 2, math.MinInt, math.MaxInt} {
			refusesPacket(t, good, b, 2, largest, impl.ErrBad)
		}
		for _, largest := range []int{-1, 0, 298, 299, maxVar} {
			checkOpenPacketAsked(t, good, b, 2, largest)
		}
	}
}

// b above MaxBytes is told ahead of all other codes.
func TestOpenPacketLongest(t *testing.T) {
	good := impl.KeysOf(countedSecret())
	for _, h := range plainHeaders() {
		packet := protectAsked(good, h, []byte("body"))
		most, beyond := join(packet, zeroes(impl.MaxBytes-len(packet))), join(packet, zeroes(impl.MaxBytes-len(packet)+1))
		if h.Form == impl.FormShort {
			refusesPacket(t, good, most, 2, 299, impl.ErrLong)
		} else {
			checkOpenPacket(t, good, most, 2, 299, h, []byte("body"), impl.OK)
		}
		refusesPacket(t, good, beyond, 2, 299, impl.ErrLong)
		refusesPacket(t, impl.Keys{}, beyond, 2, 299, impl.ErrLong)
		refusesPacket(t, good, beyond, 9, -2, impl.ErrLong)
		refusesPacket(t, impl.Keys{}, most, 2, 299, impl.ErrBad)
	}
}

func TestOpenPacketCodesOfPeek(t *testing.T) {
	k := impl.KeysOf(countedSecret())
	for _, h := range plainHeaders() {
		packet := protectAsked(k, h, []byte("a body"))
		for n := range packet {
			checkOpenPacketAsked(t, k, packet[:n], 2, 299)
		}
		for first := range 256 {
			other := slices.Clone(packet)
			other[0] = byte(first)
			checkOpenPacketAsked(t, k, other, 2, 299)
		}
	}
	refusesPacket(t, k, nil, 2, 299, impl.ErrShort)
	refusesPacket(t, k, []byte{}, 0, -1, impl.ErrShort)
	refusesPacket(t, k, []byte{63, 1, 2}, 0, -1, impl.ErrForm)
	refusesPacket(t, k, []byte{192, 0, 0, 0, 1, 9}, 0, -1, impl.ErrForm)
	refusesPacket(t, k, []byte{224, 0, 0, 0, 1, 0, 0, 11}, 0, -1, impl.ErrForm)
}

func TestOpenPacketWithoutNumber(t *testing.T) {
	k := impl.KeysOf(countedSecret())
	refusesPacket(t, k, []byte{128, 0, 0, 0, 0, 0, 0, 0, 0, 0, 1}, 0, 0, impl.ErrForm)
	refusesPacket(t, k, join([]byte{128, 0, 0, 0, 0, 0, 0}, bytes.Repeat([]byte{1}, 32)), 0, 0, impl.ErrForm)
	refusesPacket(t, k, join([]byte{240, 0, 0, 0, 1, 0, 0}, zeroes(9)), 0, 0, impl.ErrForm)
	refusesPacket(t, k, join([]byte{255, 0, 0, 0, 1, 0, 0}, zeroes(60)), 0, 0, impl.ErrForm)
}

func TestOpenPacketAnyByteChanged(t *testing.T) {
	k := impl.KeysOf(countedSecret())
	for _, h := range plainHeaders() {
		for h.NumLen = 1; h.NumLen <= 4; h.NumLen++ {
			packet := protectAsked(k, h, []byte("the body of it"))
			for i := range packet {
				for _, flip := range []byte{1, 2, 4, 8, 16, 32, 64, 128, 255} {
					changed := slices.Clone(packet)
					changed[i] ^= flip
					if checkOpenPacketAsked(t, k, changed, 2, 299) == impl.OK {
						t.Errorf("form %d opens with byte %d changed by %d", h.Form, i, flip)
					}
				}
			}
		}
	}
}

func TestOpenPacketOtherKeys(t *testing.T) {
	k := impl.KeysOf(countedSecret())
	next := impl.NextKeys(k)
	for _, h := range plainHeaders() {
		packet := protectAsked(k, h, []byte("the body"))
		checkOpenPacket(t, k, packet, 2, 299, h, []byte("the body"), impl.OK)
		// The mask of the next keys is the same one: the head is read, the body is not.
		refusesPacket(t, next, packet, 2, 299, impl.ErrKey)
		refusesPacket(t, k, protectAsked(next, h, []byte("the body")), 2, 299, impl.ErrKey)
		for i := range 40 {
			checkOpenPacketAsked(t, impl.KeysOf(rowOf(16, i+2, 256)), packet, 2, 299)
		}
		for cidLen := range 9 {
			checkOpenPacketAsked(t, k, packet, cidLen, 299)
		}
		mask := k
		mask.Mask = next.Key
		checkOpenPacketAsked(t, mask, packet, 2, 299)
	}
}

// The bits of the first byte for which no meaning is told, in a packet that opens: that is found last.
func TestOpenPacketIdleBits(t *testing.T) {
	k := impl.KeysOf(countedSecret())
	for _, h := range plainHeaders() {
		idle := []byte{4, 8, 12}
		if h.Form == impl.FormShort {
			idle = []byte{8, 16, 24}
		}
		for h.NumLen = 1; h.NumLen <= 4; h.NumLen++ {
			body := []byte("a body")
			head := headAsked(h, len(body)+8)
			checkOpenPacket(t, k, rawPacket(k, h.Num, head, body, h.NumLen), 2, 299, h, body, impl.OK)
			for _, bit := range idle {
				odd := slices.Clone(head)
				odd[0] |= bit
				packet := rawPacket(k, h.Num, odd, body, h.NumLen)
				refusesPacket(t, k, packet, 2, 299, impl.ErrForm)
				packet[len(packet)-1] ^= 1
				refusesPacket(t, k, packet, 2, 299, impl.ErrKey)
				// A head that hides the bits from its own seal does not open.
				packet = join(head, sealAsked(k, h.Num, head, body))
				packet[0] |= bit
				refusesPacket(t, k, maskAsked(k, packet, len(head)-h.NumLen, h.NumLen), 2, 299, impl.ErrKey)
			}
		}
	}
}

// The head that is sealed is the one that stands there, lengths in longer forms too.
func TestOpenPacketLongerForms(t *testing.T) {
	k := impl.KeysOf(countedSecret())
	body := []byte("some body")
	for _, form := range []int{1, 2, 4, 8} {
		for _, other := range []int{1, 2, 4, 8} {
			h := impl.Header{Form: impl.FormInitial, Version: 7, Dst: []byte{1}, Src: []byte{2, 3}, Token: []byte{4, 5}, Num: 9, NumLen: 2}
			head := join([]byte{193, 0, 0, 0, 7, 1, 1, 2, 2, 3}, longVar(2, form), h.Token, longVar(2+9+8, other), []byte{0, 9})
			packet := rawPacket(k, 9, head, body, 2)
			checkOpenPacket(t, k, packet, 5, 8, h, body, impl.OK)
			checkOpenPacket(t, k, join(packet, packet), 5, 8, h, body, impl.OK)
		}
	}
}

// How many bytes a packet may have as OpenSealed sees it.
func TestOpenPacketTooLong(t *testing.T) {
	k := impl.KeysOf(countedSecret())
	for _, h := range plainHeaders() {
		head := len(headAsked(h, 8))
		body := rowOf(1501-head, 3, 256)
		checkOpenPacket(t, k, protectAsked(k, h, body[1:]), 2, 299, h, body[1:], impl.OK)
		refusesPacket(t, k, protectAsked(k, h, body), 2, 299, impl.ErrLong)
		spoilt := protectAsked(k, h, body)
		spoilt[len(spoilt)-1] ^= 1
		refusesPacket(t, k, spoilt, 2, 299, impl.ErrLong)
	}
	// Just as many behind as may be, and the head is too much.
	h := plainHeaders()[1]
	refusesPacket(t, k, protectAsked(k, h, rowOf(1508-8-2, 3, 256)), 2, 299, impl.ErrLong)
	refusesPacket(t, k, protectAsked(k, h, rowOf(1508-8-1, 3, 256)), 2, 299, impl.ErrForm)
}

func TestOpenPacketShortest(t *testing.T) {
	k := impl.KeysOf(countedSecret())
	for _, h := range plainHeaders() {
		for h.NumLen = 1; h.NumLen <= 4; h.NumLen++ {
			body := rowOf(4-h.NumLen, 3, 256)
			packet := protectAsked(k, h, body)
			checkOpenPacket(t, k, packet, 2, 299, h, body, impl.OK)
			refusesPacket(t, k, packet[:len(packet)-1], 2, 299, impl.ErrShort)
		}
	}
}

func TestOpenPacketDrawn(t *testing.T) {
	more := numbers(66)
	for range 1500 {
		k, h := impl.KeysOf(more.bytes(16)), drawnHeader(&more)
		packet := protectAsked(k, h, more.bytes(4+more.below(40)))
		if more.below(2) == 0 {
			packet = join(packet, more.bytes(more.below(40)))
		}
		if more.below(2) == 0 {
			packet[more.below(len(packet))] ^= 1 << more.below(8)
		}
		checkOpenPacketAsked(t, k, packet, len(h.Dst), h.Num-more.below(40)+more.below(40))
	}
}

func TestP1OpenPacketTakesAnyIntegers(t *testing.T) {
	k := impl.KeysOf(countedSecret())
	for _, h := range plainHeaders() {
		packet := protectAsked(k, h, []byte("the body"))
		for _, v := range append(oddInts(), maxVar-1, maxVar, maxVar+1, 0, -1, -2) {
			mustEnd(t, fmt.Sprintf("cidLen or largest %d", v), func() {
				checkOpenPacketAsked(t, k, packet, v, 299)
				checkOpenPacketAsked(t, k, packet, 2, v)
				checkOpenPacketAsked(t, k, packet, v, v)
			})
		}
	}
}
