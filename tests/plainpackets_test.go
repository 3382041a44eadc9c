package tests

import (
	"bytes"
	"fmt"
	"math"
	"slices"
	"testing"

	"loop.example/g00012/impl"
)

// retryAsked is the packet of a valid header, byte by byte as the chapter tells it.
func retryAsked(h impl.Header, origin []byte) []byte {
	packet := join([]byte{240}, fourBytes(uint64(h.Version)), lengthAhead(h.Dst), lengthAhead(h.Src), h.Token)
	return join(packet, digestAsked([]byte("retry"), join(lengthAhead(origin), packet))[:8])
}

// signedAsked puts the tag behind any bytes: those that RetryPacket would not write too.
func signedAsked(packet, origin []byte) []byte {
	return join(packet, digestAsked([]byte("retry"), join(lengthAhead(origin), packet))[:8])
}

func checkRetry(t *testing.T, h impl.Header, origin, want []byte, code int) {
	t.Helper()
	if got, gotCode := impl.RetryPacket(h, origin); gotCode != code || !bytes.Equal(got, want) {
		t.Errorf("RetryPacket(%+v, %x) = %x %d, want %x %d", h, origin, got, gotCode, want, code)
	}
}

func checkRetryOK(t *testing.T, b, origin []byte, want impl.Header, code int) {
	t.Helper()
	if h, gotCode := impl.RetryOK(b, origin); gotCode != code || !sameHeader(h, want) {
		t.Errorf("RetryOK(%x, %x) = %+v %d, want %+v %d", b[:min(len(b), 120)], origin[:min(len(origin), 20)], h, gotCode, want, code)
	}
}

func plainRetry() impl.Header {
	return impl.Header{Form: impl.FormRetry, Version: 1, Dst: []byte{1, 2}, Src: []byte{3}, Token: []byte("tok")}
}

func TestRetryKnown(t *testing.T) {
	checkRetry(t, plainRetry(), []byte{5, 6, 7}, unhex(t, "f0000000010201020103746f6b7ef034bcfcdffc4a"), impl.OK)
	least := impl.Header{Form: impl.FormRetry, Version: maxVersion, Token: []byte{0}}
	checkRetry(t, least, nil, unhex(t, "f0ffffffff0000006749c84705488a91"), impl.OK)
}

func TestRetryEdges(t *testing.T) {
	for _, version := range []int{1, 0x01020304, maxVersion} {
		for _, count := range []int{0, 1, 8} {
			for _, tokenLen := range []int{1, 2, 63, 64} {
				h := impl.Header{Form: impl.FormRetry, Version: version, Dst: rowOf(count, 3, 256), Src: rowOf(8-count, 5, 256), Token: rowOf(tokenLen, 7, 256)}
				for _, origin := range [][]byte{nil, {}, {9}, rowOf(8, 11, 256)} {
					packet := retryAsked(h, origin)
					checkRetry(t, h, origin, packet, impl.OK)
					checkRetryOK(t, packet, origin, h, impl.OK)
				}
			}
		}
	}
}

func TestRetryRefuses(t *testing.T) {
	origin := []byte{5}
	refuse := func(change func(h *impl.Header)) {
		t.Helper()
		h := plainRetry()
		change(&h)
		checkRetry(t, h, origin, nil, impl.ErrBad)
	}
	for _, v := range []int{0, 1, 2, 4, 5, 6, -3, math.MinInt, math.MaxInt} {
		refuse(func(h *impl.Header) { h.Form = v })
	}
	for _, v := range []int{0, -1, 1 << 32, 1<<32 + 1, math.MinInt, math.MaxInt} {
		refuse(func(h *impl.Header) { h.Version = v })
	}
	for _, v := range []int{1, -1, 4, 256, math.MinInt, math.MaxInt} {
		refuse(func(h *impl.Header) { h.Num = v })
		refuse(func(h *impl.Header) { h.NumLen = v })
		refuse(func(h *impl.Header) { h.Phase = v })
	}
	for _, n := range []int{9, 10, 256, impl.MaxBytes + 1} {
		refuse(func(h *impl.Header) { h.Dst = rowOf(n, 1, 256) })
		refuse(func(h *impl.Header) { h.Src = rowOf(n, 1, 256) })
		checkRetry(t, plainRetry(), rowOf(n, 1, 256), nil, impl.ErrBad)
	}
	for _, n := range []int{0, 65, 66, 256, 320, impl.MaxBytes + 1} {
		refuse(func(h *impl.Header) { h.Token = rowOf(n, 1, 256) })
	}
	refuse(func(h *impl.Header) { h.Token = nil })
}

// A byte of the packet, or the origin, is another.
func TestRetryChanged(t *testing.T) {
	h, origin := plainRetry(), []byte{5, 6}
	packet := retryAsked(h, origin)
	for i := range packet {
		for _, flip := range []byte{1, 2, 16, 128, 255} {
			changed := slices.Clone(packet)
			changed[i] ^= flip
			told, code := peekAsked(changed, 0), impl.ErrToken
			if told.code != impl.OK {
				code = told.code
			} else if told.h.Form != impl.FormRetry {
				code = impl.ErrForm
			}
			checkRetryOK(t, changed, origin, impl.Header{}, code)
		}
	}
	for _, other := range [][]byte{nil, {}, {5}, {6}, {5, 7}, {4, 6}, {5, 6, 0}, {6, 5}, {0, 5, 6}, rowOf(8, 1, 256)} {
		checkRetryOK(t, packet, other, impl.Header{}, impl.ErrToken)
	}
	for i := len(packet) - 8; i < len(packet); i++ {
		changed := slices.Clone(packet)
		changed[i] ^= 1
		checkRetryOK(t, changed, origin, impl.Header{}, impl.ErrToken)
	}
	// A byte that goes from the origin to the packet: the count of the origin tells it.
	checkRetryOK(t, retryAsked(h, nil), []byte{240}, impl.Header{}, impl.ErrToken)
}

func TestRetryOKCodes(t *testing.T) {
	origin, far := []byte{5}, rowOf(9, 1, 256)
	packet := retryAsked(plainRetry(), origin)
	for _, n := range []int{9, 10, 256, impl.MaxBytes + 1} {
		checkRetryOK(t, packet, rowOf(n, 1, 256), impl.Header{}, impl.ErrBad)
	}
	// Two faults at once.
	for _, b := range [][]byte{nil, {0}, {64}, {240, 0}, packet[:12], join([]byte{64}, zeroes(20))} {
		checkRetryOK(t, b, far, impl.Header{}, impl.ErrBad)
	}
	beyond := join(packet, zeroes(impl.MaxBytes-len(packet)+1))
	checkRetryOK(t, beyond, origin, impl.Header{}, impl.ErrLong)
	checkRetryOK(t, beyond, far, impl.Header{}, impl.ErrLong)
	checkRetryOK(t, beyond[:impl.MaxBytes], origin, impl.Header{}, impl.ErrForm)
	for n := range packet {
		code := impl.ErrShort
		if n >= len(packet)-2 {
			code = impl.ErrToken
		}
		checkRetryOK(t, packet[:n], origin, impl.Header{}, code)
	}
	checkRetryOK(t, nil, nil, impl.Header{}, impl.ErrShort)
	k := keysAsked(countedSecret())
	for _, h := range plainHeaders() {
		checkRetryOK(t, protectAsked(k, h, rowOf(30, 1, 256)), origin, impl.Header{}, impl.ErrForm)
		checkRetryOK(t, signedAsked(protectAsked(k, h, rowOf(30, 1, 256)), origin), origin, impl.Header{}, impl.ErrForm)
	}
	checkRetryOK(t, []byte{128, 0, 0, 0, 0, 0, 0, 0, 0, 0, 1}, origin, impl.Header{}, impl.ErrForm)
	checkRetryOK(t, []byte{63}, origin, impl.Header{}, impl.ErrForm)
	long := plainRetry()
	long.Token = rowOf(65, 1, 256)
	checkRetryOK(t, retryAsked(long, origin), origin, impl.Header{}, impl.ErrForm)
	none := plainRetry()
	none.Token = nil
	checkRetryOK(t, retryAsked(none, origin), origin, impl.Header{}, impl.ErrShort)
}

// versionsAsked is the packet, byte by byte as the chapter tells it.
func versionsAsked(dst, src []byte, versions []int) []byte {
	b := join([]byte{128, 0, 0, 0, 0}, lengthAhead(dst), lengthAhead(src))
	for _, v := range versions {
		b = append(b, fourBytes(uint64(v))...)
	}
	return b
}

func checkVersions(t *testing.T, dst, src []byte, versions []int, want []byte, code int) {
	t.Helper()
	if got, gotCode := impl.VersionsPacket(dst, src, versions); gotCode != code || !bytes.Equal(got, want) {
		t.Errorf("VersionsPacket of %d, %d bytes and %d versions = %x %d, want %x %d", len(dst), len(src), len(versions), got, gotCode, want, code)
	}
}

func checkReadVersions(t *testing.T, b []byte, want []int, code int) {
	t.Helper()
	if got, gotCode := impl.ReadVersions(b); gotCode != code || !slices.Equal(got, want) {
		t.Errorf("ReadVersions(%x) = %v %d, want %v %d", b[:min(len(b), 100)], got, gotCode, want, code)
	}
}

func TestVersionsBothWays(t *testing.T) {
	checkVersions(t, []byte{1, 2}, []byte{3}, []int{1, 0x01020304, maxVersion}, []byte{128, 0, 0, 0, 0, 2, 1, 2, 1, 3, 0, 0, 0, 1, 1, 2, 3, 4, 255, 255, 255, 255}, impl.OK)
	all := []int{1, maxVersion, 256, 65536, 1 << 24, 7, 7, 1 << 31}
	for count := 1; count <= 8; count++ {
		for _, n := range []int{0, 1, 8} {
			dst, src, versions := rowOf(n, 3, 256), rowOf(8-n, 5, 256), all[8-count:]
			packet := versionsAsked(dst, src, versions)
			checkVersions(t, dst, src, versions, packet, impl.OK)
			checkReadVersions(t, packet, versions, impl.OK)
			checkPeek(t, packet, 0, impl.Header{Form: impl.FormVersions, Dst: dst, Src: src}, len(packet), impl.OK)
		}
	}
}

func TestVersionsRefuses(t *testing.T) {
	good := []int{1, 2}
	for _, n := range []int{9, 10, 256, impl.MaxBytes + 1} {
		checkVersions(t, rowOf(n, 1, 256), nil, good, nil, impl.ErrBad)
		checkVersions(t, nil, rowOf(n, 1, 256), good, nil, impl.ErrBad)
	}
	checkVersions(t, nil, nil, nil, nil, impl.ErrBad)
	checkVersions(t, nil, nil, []int{}, nil, impl.ErrBad)
	// The chapter tells a limit of its own for the list, so no list is ErrLong.
	for _, n := range []int{9, 10, 256, 264, impl.MaxList, impl.MaxList + 1} {
		checkVersions(t, nil, nil, slices.Repeat([]int{1}, n), nil, impl.ErrBad)
	}
	for _, v := range []int{0, -1, 1 << 32, 1<<32 + 1, math.MinInt, math.MaxInt} {
		for place := range 8 {
			versions := slices.Repeat([]int{3}, 8)
			versions[place] = v
			checkVersions(t, nil, nil, versions, nil, impl.ErrBad)
			checkVersions(t, nil, nil, versions[place:place+1], nil, impl.ErrBad)
		}
	}
}

func TestReadVersionsRefuses(t *testing.T) {
	packet := versionsAsked([]byte{1}, nil, []int{5, 6})
	for n := range packet {
		want := peekAsked(packet[:n], 0)
		if want.code == impl.OK {
			checkReadVersions(t, packet[:n], []int{5}, impl.OK)
		} else {
			checkReadVersions(t, packet[:n], nil, want.code)
		}
	}
	checkReadVersions(t, nil, nil, impl.ErrShort)
	for n := 1; n < 12; n++ {
		checkReadVersions(t, join(packet, zeroes(n)), nil, impl.ErrForm)
	}
	checkReadVersions(t, versionsAsked(nil, nil, slices.Repeat([]int{1}, 9)), nil, impl.ErrForm)
	checkReadVersions(t, versionsAsked(nil, nil, []int{1, 0, 2}), nil, impl.ErrForm)
	checkReadVersions(t, join(packet, zeroes(impl.MaxBytes-len(packet))), nil, impl.ErrForm)
	checkReadVersions(t, join(packet, zeroes(impl.MaxBytes-len(packet)+1)), nil, impl.ErrLong)
	k := keysAsked(countedSecret())
	for _, h := range plainHeaders() {
		checkReadVersions(t, protectAsked(k, h, rowOf(30, 1, 256)), nil, impl.ErrForm)
	}
	checkReadVersions(t, retryAsked(plainRetry(), nil), nil, impl.ErrForm)
	checkReadVersions(t, []byte{63}, nil, impl.ErrForm)
	checkReadVersions(t, []byte{64}, nil, impl.ErrShort)
	for first := range 256 {
		b := slices.Clone(packet)
		b[0] = byte(first)
		if first == 128 {
			checkReadVersions(t, b, []int{5, 6}, impl.OK)
		} else {
			checkReadVersions(t, b, nil, impl.ErrForm)
		}
	}
}

func TestResetToken(t *testing.T) {
	key := countedSecret()
	check := func(key, cid, want []byte) {
		t.Helper()
		if got := impl.ResetToken(key, cid); !bytes.Equal(got, want) {
			t.Errorf("ResetToken of %d and %d bytes = %x, want %x", len(key), len(cid), got, want)
		}
	}
	check(key, []byte{1, 2, 3}, unhex(t, "765ffdc4ee10a747"))
	check(key, nil, unhex(t, "fad8af02f0d69e07"))
	check(key, []byte{}, unhex(t, "fad8af02f0d69e07"))
	for n := range 9 {
		check(rowOf(16, n+2, 256), rowOf(n, 3, 256), digestAsked(rowOf(16, n+2, 256), rowOf(n, 3, 256))[:8])
	}
	for _, n := range []int{9, 10, 16, impl.MaxBytes, impl.MaxBytes + 1} {
		check(key, rowOf(n, 1, 256), nil)
	}
	for _, n := range []int{0, 1, 8, 15, 17, 32, impl.MaxBytes + 1} {
		check(rowOf(n, 1, 256), []byte{1}, nil)
		check(rowOf(n, 1, 256), rowOf(9, 1, 256), nil)
	}
	check(nil, nil, nil)
}

func checkReset(t *testing.T, token, junk, want []byte, code int) {
	t.Helper()
	if got, gotCode := impl.ResetPacket(token, junk); gotCode != code || !bytes.Equal(got, want) {
		t.Errorf("ResetPacket of %d and %d bytes = %x %d, want %x %d", len(token), len(junk), got, gotCode, want, code)
	}
}

func TestResetPacket(t *testing.T) {
	token := rowOf(8, 17, 256)
	for first := range 256 {
		junk := rowOf(13, 5, 256)
		junk[0] = byte(first)
		checkReset(t, token, junk, join([]byte{byte(64 + first%64)}, junk[1:], token), impl.OK)
	}
	for n := range 120 {
		junk := rowOf(n, 5, 256)
		if inRange(n, 13, 100) {
			checkReset(t, token, junk, join([]byte{64}, junk[1:], token), impl.OK)
		} else {
			checkReset(t, token, junk, nil, impl.ErrBad)
		}
	}
	checkReset(t, token, rowOf(impl.MaxBytes+1, 1, 256), nil, impl.ErrBad)
	for _, n := range []int{0, 1, 7, 9, 16, impl.MaxBytes + 1} {
		checkReset(t, rowOf(n, 1, 256), rowOf(20, 1, 256), nil, impl.ErrBad)
		checkReset(t, rowOf(n, 1, 256), nil, nil, impl.ErrBad)
	}
	checkReset(t, nil, rowOf(20, 1, 256), nil, impl.ErrBad)
	checkReset(t, nil, nil, nil, impl.ErrBad)
}

func checkIsReset(t *testing.T, b []byte, tokens [][]byte, want int) {
	t.Helper()
	if got := impl.IsReset(b, tokens); got != want {
		t.Errorf("IsReset of %d bytes and %d tokens = %d, want %d", len(b), len(tokens), got, want)
	}
}

func TestIsReset(t *testing.T) {
	token, other := rowOf(8, 17, 256), rowOf(8, 19, 256)
	for n := 13; n <= 100; n++ {
		packet, code := impl.ResetPacket(token, rowOf(n, 7, 256))
		if code != impl.OK {
			t.Fatalf("ResetPacket: %d", code)
		}
		checkIsReset(t, packet, [][]byte{token}, 0)
		checkIsReset(t, packet, [][]byte{other, token, token}, 1)
		checkIsReset(t, packet, [][]byte{other}, -1)
		checkIsReset(t, packet, nil, -1)
		checkIsReset(t, packet, [][]byte{}, -1)
	}
	packet := join([]byte{64}, zeroes(12), token)
	for first := range 256 {
		packet[0] = byte(first)
		want := -1
		if inRange(first, 64, 127) {
			want = 0
		}
		checkIsReset(t, packet, [][]byte{token}, want)
	}
}

func TestIsResetLengths(t *testing.T) {
	token := rowOf(8, 17, 256)
	for n := 1; n <= 13; n++ {
		b := join([]byte{64}, zeroes(n-1), token)
		want := -1
		if len(b) >= 21 {
			want = 0
		}
		checkIsReset(t, b, [][]byte{token}, want)
	}
	for n := range 30 {
		checkIsReset(t, bytes.Repeat([]byte{64}, n), nil, -1)
		checkIsReset(t, bytes.Repeat([]byte{0}, n), [][]byte{zeroes(8)}, -1)
	}
	most := join([]byte{64}, zeroes(impl.MaxBytes-9), token)
	checkIsReset(t, most, [][]byte{token}, 0)
	checkIsReset(t, join([]byte{64}, most), [][]byte{token}, -1)
	checkIsReset(t, nil, [][]byte{token}, -1)
	checkIsReset(t, nil, [][]byte{nil}, -1)
}

// A token of another length is none, though b ends with it.
func TestIsResetTokens(t *testing.T) {
	row := rowOf(40, 17, 256)
	row[0] = 64
	for n := range 41 {
		alone, ahead := -1, 3
		if n == 8 {
			alone, ahead = 0, 2
		}
		checkIsReset(t, row, [][]byte{row[40-n:]}, alone)
		checkIsReset(t, row, [][]byte{nil, {}, row[40-n:], row[32:]}, ahead)
	}
	for i := range 8 {
		near := slices.Clone(row[32:])
		near[i] ^= 1
		checkIsReset(t, row, [][]byte{near}, -1)
		checkIsReset(t, row, [][]byte{near, row[32:]}, 1)
	}
	checkIsReset(t, row, [][]byte{row[:8], row[31:39]}, -1)
	tokens := slices.Repeat([][]byte{row[:8]}, impl.MaxList)
	checkIsReset(t, row, tokens, -1)
	tokens[impl.MaxList-1] = row[32:]
	checkIsReset(t, row, tokens, impl.MaxList-1)
	tokens = append(tokens, row[32:])
	checkIsReset(t, row, tokens, -1)
	tokens[0] = row[32:]
	checkIsReset(t, row, tokens, -1)
	checkIsReset(t, row, tokens[:impl.MaxList], 0)
}

// fencedHeader is a header with a fence behind each of its lists.
type fencedHeader struct {
	h     impl.Header
	parts []fenced[byte]
}

func fenceHeader(h impl.Header) fencedHeader {
	parts := []fenced[byte]{fence(h.Dst, 80), fence(h.Src, 81), fence(h.Token, 82)}
	h.Dst, h.Src, h.Token = parts[0].list, parts[1].list, parts[2].list
	return fencedHeader{h, parts}
}

func (f fencedHeader) check(t *testing.T, call string) {
	t.Helper()
	for _, part := range f.parts {
		part.check(t, call)
	}
}

func partsOf(h impl.Header, more ...[]byte) [][]byte {
	return append([][]byte{h.Dst, h.Src, h.Token}, more...)
}

func TestP1PacketMemory(t *testing.T) {
	plain := keysAsked(countedSecret())
	k, body := fenceKeys(plain), fence([]byte("a body of some bytes"), 77)
	heads := append(plainHeaders(), impl.Header{Form: impl.FormInitial, Version: 1, Dst: rowOf(8, 1, 256), Src: rowOf(8, 3, 256), Token: rowOf(64, 5, 256), NumLen: 4})
	for _, plainHead := range heads {
		h := fenceHeader(plainHead)
		unchanged := func() {
			k.check(t, "packets")
			h.check(t, "packets")
			body.check(t, "packets")
		}
		checkFresh(t, "HeadBytes", func() [][]byte {
			head, _ := impl.HeadBytes(h.h, 20)
			return [][]byte{head}
		}, unchanged)
		checkFresh(t, "ProtectPacket", func() [][]byte {
			packet, _ := impl.ProtectPacket(k.keys, h.h, body.list)
			return [][]byte{packet}
		}, unchanged)
		packet := protectAsked(plain, plainHead, body.list)
		for _, row := range [][]byte{packet, join(packet, packet), packet[:len(packet)-1], join([]byte{packet[0] ^ 1}, packet[1:])} {
			b := fence(row, 78)
			same := func() {
				k.check(t, "OpenPacket")
				b.check(t, "packets")
			}
			checkFresh(t, "Peek", func() [][]byte {
				got, _, _ := impl.Peek(b.list, len(plainHead.Dst))
				return partsOf(got)
			}, same)
			checkFresh(t, "OpenPacket", func() [][]byte {
				got, opened, _ := impl.OpenPacket(k.keys, b.list, len(plainHead.Dst), max(plainHead.Num-1, -1))
				return partsOf(got, opened)
			}, same)
			checkFresh(t, "SplitDatagram", func() [][]byte { return slices.Clone(impl.SplitDatagram(b.list, 2)) }, same)
		}
	}
}

func TestP1PlainPacketMemory(t *testing.T) {
	h, origin := fenceHeader(plainRetry()), fence([]byte{5, 6}, 77)
	checkFresh(t, "RetryPacket", func() [][]byte {
		packet, _ := impl.RetryPacket(h.h, origin.list)
		return [][]byte{packet}
	}, func() {
		h.check(t, "RetryPacket")
		origin.check(t, "RetryPacket")
	})
	for _, b := range [][]byte{retryAsked(plainRetry(), []byte{5, 6}), retryAsked(plainRetry(), []byte{5})} {
		packet := fence(b, 78)
		checkFresh(t, "RetryOK", func() [][]byte {
			got, _ := impl.RetryOK(packet.list, origin.list)
			return partsOf(got)
		}, func() {
			packet.check(t, "RetryOK")
			origin.check(t, "RetryOK")
		})
	}
	dst, src, versions := fence([]byte{1, 2}, 79), fence([]byte{3}, 80), fence([]int{7, 8, 9}, 1)
	checkFresh(t, "VersionsPacket", func() [][]byte {
		packet, _ := impl.VersionsPacket(dst.list, src.list, versions.list)
		return [][]byte{packet}
	}, func() {
		dst.check(t, "VersionsPacket")
		src.check(t, "VersionsPacket")
		versions.check(t, "VersionsPacket")
	})
	key, cid := fence(countedSecret(), 81), fence([]byte{1, 2, 3}, 82)
	checkFresh(t, "ResetToken", func() [][]byte { return [][]byte{impl.ResetToken(key.list, cid.list)} }, func() {
		key.check(t, "ResetToken")
		cid.check(t, "ResetToken")
	})
	token, junk := fence(rowOf(8, 9, 256), 83), fence(rowOf(30, 7, 256), 84)
	checkFresh(t, "ResetPacket", func() [][]byte {
		packet, _ := impl.ResetPacket(token.list, junk.list)
		return [][]byte{packet}
	}, func() {
		token.check(t, "ResetPacket")
		junk.check(t, "ResetPacket")
	})
	reset := fence(join([]byte{64}, zeroes(20), rowOf(8, 9, 256)), 85)
	checkIsReset(t, reset.list, [][]byte{junk.list, token.list}, 1)
	reset.check(t, "IsReset")
	token.check(t, "IsReset")
	junk.check(t, "IsReset")
}

func TestP1ReadVersionsMemory(t *testing.T) {
	packet := fence(versionsAsked([]byte{1}, []byte{2}, []int{7, 8, 9}), 78)
	list, _ := impl.ReadVersions(packet.list)
	whole := list[:cap(list)]
	for i := range whole {
		whole[i] = -5
	}
	packet.check(t, "ReadVersions")
	checkReadVersions(t, packet.list, []int{7, 8, 9}, impl.OK)
}

func TestP1PacketsTakeAnyLengths(t *testing.T) {
	good := impl.KeysOf(countedSecret())
	lengths := []int{0, 1, 7, 8, 9, 12, 13, 16, 20, 21, 64, 65, 100, 101, 1500, 1501, impl.MaxBytes, impl.MaxBytes + 1}
	for _, a := range lengths {
		for _, first := range []byte{0, 63, 64, 127, 128, 191, 192, 208, 224, 240, 255} {
			x := rowOf(a, 3, 5)
			if a > 0 {
				x[0] = first
			}
			mustEnd(t, fmt.Sprintf("%d bytes from %d on", a, first), func() {
				for _, b := range []int{0, 8, 9, 64, 65} {
					y := rowOf(b, 1, 256)
					for form := range 6 {
						h := impl.Header{Form: form, Version: 1, Dst: x, Src: y, Token: x, NumLen: 1}
						impl.HeadBytes(h, a)
						impl.ProtectPacket(good, h, y)
						impl.RetryPacket(h, y)
					}
					impl.RetryOK(x, y)
					impl.VersionsPacket(x, y, []int{1})
					impl.ResetToken(x, y)
					impl.ResetPacket(x, y)
					impl.ResetPacket(y, x)
					impl.IsReset(x, [][]byte{y, x})
				}
				impl.ReadVersions(x)
				for _, cidLen := range []int{0, 8} {
					impl.Peek(x, cidLen)
					impl.SplitDatagram(x, cidLen)
					impl.OpenPacket(good, x, cidLen, 0)
				}
			})
		}
	}
}
