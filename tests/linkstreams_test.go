package tests

import (
	"slices"
	"strings"
	"testing"

	"loop.example/g00012/impl"
)

// behindCalm is a run behind a meeting; the answers of ops alone are given back.
func behindCalm(t *testing.T, s impl.LinkSetup, ops ...impl.LinkOp) ([]impl.LinkObs, impl.LinkOut, *askedLink) {
	t.Helper()
	got, l := checkLink(t, s, append([]impl.LinkOp{linkCalm(1)}, ops...))
	return got.Obs[1:], got, l
}

func wantObsCodes(t *testing.T, list []impl.LinkObs, codes ...int) {
	t.Helper()
	if got := codesOf(impl.LinkOut{Obs: list}); !slices.Equal(got, codes) {
		t.Errorf("codes %v, want %v", got, codes)
	}
}

func wantReads(t *testing.T, list []impl.LinkObs, reads map[int]string) {
	t.Helper()
	for i, obs := range list {
		if string(obs.Data) != reads[i] {
			t.Errorf("operation %d reads %q, want %q", i, shortBytes(obs.Data), shortBytes([]byte(reads[i])))
		}
	}
}

func TestP16OpeningAtTheLimit(t *testing.T) {
	s := plainLink()
	s.Client.TwoWay, s.Client.OneWay, s.Server.TwoWay, s.Server.OneWay = 1, 2, 3, 0
	obs, _, _ := behindCalm(t, s, linkOpen(0), linkOpen(0), linkOpen(0), linkOpen(0), linkOpenOneWay(0), linkOpen(1), linkOpen(1), linkOpenOneWay(1), linkOpenOneWay(1), linkOpenOneWay(1))
	wantObsCodes(t, obs, 0, 0, 0, 9, 9, 0, 9, 0, 0, 9)
	for i, id := range []int{0, 4, 8, 0, 0, 1, 0, 3, 7, 0} {
		if obs[i].Id != id {
			t.Errorf("operation %d opens %d, want %d", i, obs[i].Id, id)
		}
	}
}

// One more may be opened when one of them was read to its end, or given up and that was heard; not when it is but finished.
func TestP16OneMoreBehindTheEnd(t *testing.T) {
	s := plainLink()
	s.Client.TwoWay, s.Client.OneWay, s.Server.TwoWay, s.Server.OneWay = 1, 1, 1, 1
	for side := range 2 {
		other, two, one := 1-side, side, 2+side
		obs, _, _ := behindCalm(t, s,
			linkOpen(side), linkOpenOneWay(side), linkLast(side, two, "two"), linkLast(side, one, "one"), linkCalm(1), linkOpen(side), linkOpenOneWay(side),
			linkRead(other, two, 9), linkCalm(1), linkOpen(side), linkOpenOneWay(side), linkRead(other, one, 2), linkCalm(1), linkOpenOneWay(side), linkRead(other, one, 2), linkOpenOneWay(side), linkCalm(1), linkOpenOneWay(side))
		wantObsCodes(t, obs, 0, 0, 0, 0, 0, 9, 9, 0, 0, 0, 9, 0, 0, 9, 0, 9, 0, 0)
		wantReads(t, obs, map[int]string{7: "two", 11: "on", 14: "e"})
		if obs[9].Id != two+4 || obs[17].Id != one+4 || !obs[7].End || obs[11].End || !obs[14].End {
			t.Errorf("%+v", obs)
		}
		// Given up.
		obs, _, _ = behindCalm(t, s,
			linkOpenOneWay(side), linkWrite(side, one, "one"), linkCalm(1), linkReset(side, one, 7), linkCalm(1), linkOpenOneWay(side),
			linkRead(other, one, 9), linkCalm(1), linkOpenOneWay(side), linkRead(other, one, 9), linkOpenOneWay(side))
		wantObsCodes(t, obs, 0, 0, 0, 0, 0, 9, 23, 0, 0, 23, 9)
		if obs[6].Sent != 1 || obs[9].Sent != 0 || obs[8].Id != one+4 {
			t.Errorf("%+v", obs)
		}
	}
}

// On a stream that this end has not opened, and that the other has not told of, nothing can be done; nor in the wrong direction.
func TestP16StreamsThatThereAreNot(t *testing.T) {
	for side := range 2 {
		other := 1 - side
		obs, _, _ := behindCalm(t, plainLink(), linkOpen(side), linkOpenOneWay(side),
			linkWrite(other, side, "x"), linkRead(other, side, 1), linkReset(other, side, 1), linkStop(other, side, 1),
			linkRead(side, 2+side, 1), linkStop(side, 2+side, 1), linkWrite(side, 4+side, "x"), linkRead(side, -1, 1), linkWrite(side, -1, "x"), linkReset(side, 1<<62, 1), linkStop(side, -1<<63, 1),
			linkWrite(side, 2+side, "x"), linkCalm(1), linkWrite(other, 2+side, "x"), linkReset(other, 2+side, 1), linkRead(other, 2+side, 1), linkStop(other, 2+side, 1))
		wantObsCodes(t, obs, 0, 0, 7, 7, 7, 7, 7, 7, 7, 7, 7, 7, 7, 0, 0, 7, 7, 0, 0)
	}
}

// A stream whose number alone was told is open at the other end too: by a stop, by more credit, and with all of its kind ahead of it.
func TestP16StreamsThatAreToldOf(t *testing.T) {
	for side := range 2 {
		other := 1 - side
		obs, got, _ := behindCalm(t, plainLink(), linkOpen(side), linkOpen(side), linkOpen(side), linkStop(side, 4+side, 5), linkCalm(1),
			linkRead(other, side, 1), linkRead(other, 4+side, 1), linkRead(other, 8+side, 1), linkWrite(other, side, "a"), linkWrite(other, 4+side, "b"), linkReset(other, 4+side, 1), linkCalm(1), linkRead(side, 4+side, 1), linkRead(side, side, 1))
		wantObsCodes(t, obs, 0, 0, 0, 0, 0, 0, 0, 7, 0, 7, 7, 0, 23, 0)
		wantReads(t, obs, map[int]string{13: "a"})
		if !bothOpen(got) {
			t.Errorf("%+v", got)
		}
	}
}

func TestP16WritesAndTheirEnd(t *testing.T) {
	for side := range 2 {
		other := 1 - side
		obs, _, _ := behindCalm(t, plainLink(), linkOpen(side), linkWrite(side, side, ""), linkWrite(side, side, "ab"), linkWrite(side, side, "cd"), linkLast(side, side, ""), linkWrite(side, side, "e"), linkLast(side, side, ""),
			linkCalm(1), linkWrite(side, side, ""), linkRead(other, side, 3), linkRead(other, side, 3), linkRead(other, side, 3), linkReset(side, side, 1), linkStop(other, side, 1), linkCalm(1))
		wantObsCodes(t, obs, 0, 0, 0, 0, 0, 7, 7, 0, 7, 0, 0, 0, 7, 0, 0)
		wantReads(t, obs, map[int]string{9: "abc", 10: "d"})
		if obs[1].Sent != 0 || obs[2].Sent != 1 || obs[4].Sent != 1 || obs[9].End || !obs[10].End || !obs[11].End {
			t.Errorf("%+v", obs)
		}
	}
	// A stream without a byte.
	obs, _, _ := behindCalm(t, plainLink(), linkOpen(0), linkLast(0, 0, ""), linkCalm(1), linkRead(1, 0, 1), linkRead(1, 0, 1))
	if obs[1].Sent != 1 || !obs[3].End || len(obs[3].Data) != 0 || !obs[4].End {
		t.Errorf("%+v", obs)
	}
	// As many bytes as a stream may have, and one more.
	long := strings.Repeat("y", 65536)
	obs, _, _ = behindCalm(t, plainLink(), linkOpen(0), linkWrite(0, 0, long+"z"), linkWrite(0, 0, long), linkWrite(0, 0, "z"), linkLast(0, 0, "z"), linkLast(0, 0, ""), linkWrite(0, 0, ""))
	wantObsCodes(t, obs, 0, 4, 0, 4, 4, 0, 7)
}

func TestP16Resets(t *testing.T) {
	for side := range 2 {
		other := 1 - side
		// What came ahead of it is gone, if it was not read.
		obs, got, _ := behindCalm(t, plainLink(), linkOpen(side), linkWrite(side, side, "abcd"), linkCalm(1), linkRead(other, side, 2), linkReset(side, side, 9), linkRead(other, side, 1), linkCalm(1), linkRead(other, side, 9), linkRead(other, side, 9), linkRead(other, side, 0),
			linkReset(side, side, 9), linkWrite(side, side, "e"), linkLast(side, side, ""), linkWrite(other, side, "still"), linkCalm(1), linkRead(side, side, 9))
		wantObsCodes(t, obs, 0, 0, 0, 0, 0, 0, 0, 23, 23, 1, 7, 7, 7, 0, 0, 0)
		wantReads(t, obs, map[int]string{3: "ab", 5: "c", 15: "still"})
		if !bothOpen(got) {
			t.Errorf("%+v", got)
		}
		// Read to its end first: a reset comes too late.
		obs, _, _ = behindCalm(t, plainLink(), linkOpen(side), linkLast(side, side, "abcd"), linkLose(), linkReset(side, side, 9), linkCalm(1), linkRead(other, side, 9))
		wantObsCodes(t, obs, 0, 0, 0, 0, 0, 23)
		obs, _, _ = behindCalm(t, plainLink(), linkOpen(side), linkLast(side, side, "abcd"), linkDeliver(8), linkReset(side, side, 9), linkCalm(1), linkRead(other, side, 9), linkRead(other, side, 9))
		wantObsCodes(t, obs, 0, 0, 0, 0, 0, 0, 0)
		if !obs[5].End || string(obs[5].Data) != "abcd" {
			t.Errorf("%+v", obs)
		}
		// Bytes that come behind the reset say nothing; those that were never sent are not of the final size.
		obs, got, _ = behindCalm(t, plainLink(), linkOpen(side), linkWrite(side, side, strings.Repeat("x", 3000)), linkReset(side, side, 9), linkDeliver(10), linkDeliver(8), linkDeliver(9), linkCalm(9), linkRead(other, side, 9))
		if obs[7].Code != impl.ErrCancel || !bothOpen(got) {
			t.Errorf("%+v", obs)
		}
	}
}

// What was asked for by a stop is a reset with the same code; one that is over already says nothing.
func TestP16Stops(t *testing.T) {
	for side := range 2 {
		other := 1 - side
		obs, got, l := behindCalm(t, plainLink(), linkOpen(side), linkWrite(side, side, "abcd"), linkCalm(1), linkStop(other, side, 40), linkStop(other, side, 41), linkCalm(1), linkWrite(side, side, "e"), linkReset(side, side, 1), linkRead(other, side, 9), linkStop(other, side, 40), linkCalm(1))
		wantObsCodes(t, obs, 0, 0, 0, 0, 0, 0, 7, 7, 23, 0, 0)
		if !bothOpen(got) || l.ends[side].out[side].state != impl.SsReset {
			t.Errorf("%+v", got)
		}
		// Of the one that was opened here.
		obs, _, _ = behindCalm(t, plainLink(), linkOpen(side), linkWrite(side, side, "q"), linkStop(side, side, 4), linkCalm(1), linkWrite(other, side, "r"), linkRead(other, side, 9), linkRead(side, side, 9))
		wantObsCodes(t, obs, 0, 0, 0, 0, 7, 0, 23)
		wantReads(t, obs, map[int]string{5: "q"})
	}
}

// Just as many bytes as the credit lets go, of a stream and of the connection; a read tells more of it.
func TestP16TheCreditOfAStream(t *testing.T) {
	for _, c := range []struct{ window, bytes, first int }{
		{100, 99, 99}, {100, 100, 100}, {100, 101, 100}, {1, 2, 1}, {1056, 1056, 1056}, {1057, 1057, 1057}, {16384, 16384, 16384}, {16384, 16385, 16384}, {16383, 16384, 16383},
	} {
		for _, streams := range []bool{true, false} {
			s := wideLink()
			if streams {
				s.Server.StreamWindow = c.window
			} else {
				s.Server.ConnWindow = c.window
			}
			obs, _, _ := behindCalm(t, s, linkOpen(0), linkLast(0, 0, strings.Repeat("x", c.bytes)), linkCalm(9), linkRead(1, 0, 1<<20), linkCalm(9), linkRead(1, 0, 1<<20), linkRead(1, 0, 1))
			if len(obs[3].Data) != c.first || obs[3].End != (c.first == c.bytes) || len(obs[5].Data) != c.bytes-c.first || !obs[5].End {
				t.Errorf("%+v: %d and %d bytes are read, ends %v %v", c, len(obs[3].Data), len(obs[5].Data), obs[3].End, obs[5].End)
			}
		}
	}
}

// Half of the window, rounded up, is to be read ahead of more being told.
func TestP16HalfOfAWindow(t *testing.T) {
	for _, c := range []struct{ window, half int }{{100, 50}, {101, 51}, {2, 1}, {3, 2}, {1, 1}} {
		for _, streams := range []bool{true, false} {
			s := wideLink()
			if streams {
				s.Client.StreamWindow = c.window
			} else {
				s.Client.ConnWindow = c.window
			}
			ops := []impl.LinkOp{linkOpen(1), linkWrite(1, 1, strings.Repeat("x", 3*c.window)), linkCalm(9)}
			if c.half > 1 {
				obs, _, _ := behindCalm(t, s, append(slices.Clone(ops), linkRead(0, 1, c.half-1), linkCalm(9), linkRead(0, 1, 1<<20))...)
				if obs[3].Sent != 0 || len(obs[5].Data) != c.window-c.half+1 {
					t.Errorf("%+v: %+v", c, obs[3:])
				}
			}
			obs, _, _ := behindCalm(t, s, append(slices.Clone(ops), linkRead(0, 1, c.half), linkCalm(9), linkRead(0, 1, 1<<20))...)
			if obs[3].Sent != 1 || len(obs[5].Data) != c.window {
				t.Errorf("%+v: %+v", c, obs[3:])
			}
		}
	}
}

// The credit of the connection goes to the streams by rising number, and so does the room of a packet.
func TestP16StreamsByRisingNumber(t *testing.T) {
	s := wideLink()
	s.Server.ConnWindow = 100
	obs, _, _ := behindCalm(t, s, linkOpen(0), linkOpen(0), linkOpenOneWay(0),
		linkWrite(0, 4, strings.Repeat("b", 80)), linkWrite(0, 0, strings.Repeat("a", 15)), linkWrite(0, 2, strings.Repeat("c", 30)), linkCalm(9),
		linkRead(1, 4, 999), linkRead(1, 0, 999), linkRead(1, 2, 999), linkCalm(9), linkRead(1, 2, 999))
	wantReads(t, obs, map[int]string{7: strings.Repeat("b", 80), 8: strings.Repeat("a", 15), 9: strings.Repeat("c", 5), 11: strings.Repeat("c", 25)})
	// A packet is filled by the first one as far as there are 40 bytes left for the next.
	for _, n := range []int{960, 1016, 1017, 1030, 1034, 1035, 1036, 1037, 1038, 1039, 1040, 1041, 1056, 1057} {
		// Both wait until the window lets them: they go together then.
		s := wideLink()
		full := strings.Repeat("x", 12000)
		obs, _, _ := behindCalm(t, s, linkOpen(0), linkOpen(0), linkOpen(0), linkWrite(0, 8, full), linkWrite(0, 4, strings.Repeat("b", n)), linkWrite(0, 0, strings.Repeat("a", n)), linkDeliver(8), linkDeliver(9), linkDeliver(19), linkDeliver(20), linkCalm(9))
		if obs[4].Sent != 0 || obs[5].Sent != 0 {
			t.Errorf("with %d bytes: %+v", n, obs)
		}
	}
}

// The window lets a full packet more: just so, and one byte too little.
func TestP16TheWindowToAByte(t *testing.T) {
	last := [2]int{}
	for n := 40; n < 90; n++ {
		ops := []impl.LinkOp{linkOpen(0), linkOpen(0), linkWrite(0, 0, strings.Repeat("x", 11*1056)), linkWrite(0, 0, strings.Repeat("x", n))}
		_, before, _ := behindCalm(t, wideLink(), ops...)
		room := before.Client.Window - before.Client.Flight - 1200
		obs, _, _ := behindCalm(t, wideLink(), append(ops, linkWrite(0, 4, "y"), linkStop(0, 0, 1))...)
		may := room >= 0
		if obs[4].Sent != way(may) {
			t.Errorf("%d bytes of room beside a full packet: %d packets", room, obs[4].Sent)
		}
		if room == 0 || room == -1 {
			last[-room]++
		}
	}
	if last != [2]int{1, 1} {
		t.Errorf("just enough, and one byte too little: %v", last)
	}
}

// A probe goes beyond the window, with all that can be told in one packet.
func TestP16AProbeBeyondTheWindow(t *testing.T) {
	obs, got, l := behindCalm(t, wideLink(), linkOpen(0), linkWrite(0, 0, strings.Repeat("x", 16000)), linkStop(0, 0, 9), linkTick(998999), linkTick(1), linkTick(2*999000), linkLose(), linkCalm(60), linkRead(1, 0, 1<<20))
	if obs[1].Sent != 12 || obs[2].Sent != 0 || obs[3].Sent != 0 || obs[4].Sent != 1 || obs[5].Sent != 1 {
		t.Errorf("%+v", obs)
	}
	if len(obs[8].Data) != 16000 || !bothOpen(got) || got.Client.Flight != 0 || l.met["window full"] == 0 {
		t.Errorf("%+v", got)
	}
}

// burstAhead has 20 bytes that are not one behind the other, of which all but the last are lost at once: each needs a packet of its own,
// of which 16 go at once, and 3 wait. The server's last acknowledgement, 67, has told it.
func burstAhead() []impl.LinkOp {
	ops := []impl.LinkOp{linkOpen(0)}
	for i := range 40 {
		ops = append(ops, linkWrite(0, 0, string(rune('a'+i%26))))
	}
	for i := range 20 {
		ops = append(ops, linkDeliver(9+2*i))
	}
	return append(ops, linkDeliver(8+40+19))
}

func TestP16ABurst(t *testing.T) {
	obs, got, l := behindCalm(t, wideLink(), append(burstAhead(), linkOpen(0), linkCalm(9), linkRead(1, 0, 99))...)
	if obs[61].Sent != 16 || obs[62].Sent != 3 || len(obs[64].Data) != 40 || l.met["burst"] != 1 {
		t.Errorf("%+v", obs[60:])
	}
	if got.Client.Flight != 0 {
		t.Errorf("%+v", got.Client)
	}
	// A write of as many bytes as the credit lets is as many packets, when the window lets them.
	s := wideLink()
	obs, _, _ = behindCalm(t, s, linkOpen(0), linkWrite(0, 0, strings.Repeat("x", 16384)), linkCalm(9), linkRead(1, 0, 1<<20), linkCalm(9), linkWrite(0, 0, strings.Repeat("y", 16384)), linkCalm(9), linkRead(1, 0, 1<<20))
	if obs[5].Sent != 16 || len(obs[7].Data) != 16384 {
		t.Errorf("%d packets, %d bytes", obs[5].Sent, len(obs[7].Data))
	}
}

// What makes an end speak: something waits, and goes or goes not behind an operation.
func TestP16WhoSpeaksBehindAnOperation(t *testing.T) {
	s := wideLink()
	for _, c := range []struct {
		op   impl.LinkOp
		sent int
	}{
		{linkOpen(0), 3}, {linkWrite(0, 0, ""), 3}, {linkRead(0, 0, 5), 3}, {linkUpdate(0), 3}, {linkStop(0, 0, 1), 3}, {linkOpenOneWay(0), 3},
		// With a code.
		{linkRead(0, 0, 0), 0}, {linkRead(0, 4, 1), 0}, {linkWrite(0, 4, "x"), 0}, {linkWrite(0, 0, strings.Repeat("x", 65536)), 0}, {linkReset(0, 4, 1), 0}, {linkStop(0, 0, -1), 0}, {linkClose(0, -1), 0}, {impl.LinkOp{Kind: 99}, 0}, {impl.LinkOp{Kind: 1, Side: 2}, 0}, {linkDeliver(-1), 0}, {linkSpoil(67, 999, 1), 0}, {linkCalm(0), 0}, {linkTick(-1), 0},
		// On no side, and on the other one.
		{linkRebind(), 0}, {linkLose(), 0}, {linkTick(0), 0}, {linkOpen(1), 0}, {linkRead(1, 0, 1), 0}, {linkClose(0, 5), 1},
		// A datagram, whether something in it opens or not: it came ahead, a byte of it is spoilt, it is no packet at all, or none of this form.
		{linkDeliver(67), 3}, {linkDeliver(1), 3}, {linkSpoil(67, 20, 1), 3}, {linkSpoil(67, 0, 64), 3}, {linkSpoil(67, 0, 192), 3}, {linkSpoil(66, 15, 0), 3}, {linkDeliver(0), 0},
	} {
		obs, _, _ := behindCalm(t, s, append(burstAhead(), c.op)...)
		if got := obs[62].Sent; got != c.sent {
			t.Errorf("%s: %d packets, want %d", toldLinkOp(c.op), got, c.sent)
		}
	}
	// Who hears that all is over, or nothing for too long, says nothing.
	obs, got, _ := behindCalm(t, s, append(burstAhead(), linkClose(1, 3), linkDeliver(8+40+20+16), linkCalm(3), linkTick(5))...)
	if obs[63].Sent != 0 || obs[64].Sent != 0 || got.Client.Code != impl.ErrClosed {
		t.Errorf("%+v", obs[61:])
	}
	s.Client.Idle = 1
	obs, got, _ = behindCalm(t, s, append(burstAhead(), linkTick(1), linkDeliver(67), linkSpoil(67, 0, 64))...)
	if obs[62].Sent != 0 || obs[63].Sent != 0 || obs[64].Sent != 0 || got.Client.Code != impl.ErrIdle {
		t.Errorf("%+v", obs[61:])
	}
}

// A stream that is given up, read while something waits: it speaks with that code too, the first time and later.
func TestP16SpeaksBehindACancel(t *testing.T) {
	ops := append([]impl.LinkOp{linkOpen(1), linkWrite(1, 1, "x"), linkCalm(1), linkReset(1, 1, 3), linkCalm(1)}, everySecond(20)...)
	for i := range ops {
		if ops[i].Kind == impl.LDeliver {
			ops[i].N += 4
		}
	}
	ops = append(ops, linkDeliver(8+4+40+19))
	obs, _, _ := behindCalm(t, wideLink(), append(ops, linkRead(0, 1, 5))...)
	at := len(ops)
	if obs[at-1].Sent != 16 || obs[at].Code != impl.ErrCancel || obs[at].Sent != 3 {
		t.Errorf("%+v", obs[at-2:])
	}
	ahead := slices.Insert(slices.Clone(ops), 5, linkRead(0, 1, 5), linkCalm(1))
	for i := range ahead {
		if i > 6 && ahead[i].Kind == impl.LDeliver {
			ahead[i].N += 2
		}
	}
	obs, _, _ = behindCalm(t, wideLink(), append(ahead, linkRead(0, 1, 5))...)
	at = len(ahead)
	if obs[5].Code != impl.ErrCancel || obs[at-1].Sent != 16 || obs[at].Code != impl.ErrCancel || obs[at].Sent != 3 {
		t.Errorf("%+v", obs[at-2:])
	}
}

// everySecond has packets of which every second one comes, so many times.
func everySecond(count int) []impl.LinkOp {
	ops := []impl.LinkOp{linkOpen(0)}
	for range 2 * count {
		ops = append(ops, linkWrite(0, 0, "x"))
	}
	for i := range count {
		ops = append(ops, linkDeliver(9+2*i))
	}
	return ops
}

// 31, 32, 33 ranges, and how many bytes the acknowledgements have: 5 and 2 for each range but the first; from 64 on a number has two.
func TestP16ManyRanges(t *testing.T) {
	for _, count := range []int{1, 2, 30, 31, 32, 33, 36} {
		_, got, l := behindCalm(t, wideLink(), everySecond(count)...)
		gone := 227 + 6
		for i := range count {
			// With what came at the meeting there is one range more.
			ranges := min(i+2, 32)
			gone += 10 + 5 + 2*(ranges-1) + 8
			if greatest := 2*i + 2; greatest > 63 {
				gone++
			}
		}
		if got.Server.Gone != gone || l.met["more than 32 ranges"] != max(0, count-31) {
			t.Errorf("%d ranges: %d bytes, want %d", count+1, got.Server.Gone, gone)
		}
		// Those that are not told are lost to the client, but known to the server.
		ops := append(everySecond(count), linkDeliver(8+2*count+count-1))
		if len(ops) < 117 {
			obs, _, _ := behindCalm(t, wideLink(), append(ops, linkCalm(9), linkRead(1, 0, 999))...)
			if last := obs[len(obs)-1]; len(last.Data) != 2*count {
				t.Errorf("%d of %d bytes are read", len(last.Data), 2*count)
			}
		}
	}
}

// manyRanges has more than 64: of the server's probes, 16 in a tick, every second one comes.
func manyRanges(rounds int) []impl.LinkOp {
	s := wideLink()
	l := newAskedLink(s)
	var ops []impl.LinkOp
	run := func(op impl.LinkOp) {
		ops = append(ops, op)
		l.run(op)
	}
	run(linkCalm(1))
	run(linkOpen(1))
	run(linkWrite(1, 1, "x"))
	for range rounds {
		first := len(l.air)
		run(linkTick(1001 * (1<<16 - 1)))
		last := len(l.air) - 1
		for n := first + (last-first)%2; n <= last; n += 2 {
			run(linkDeliver(n))
		}
		run(linkDeliver(len(l.air) - 1))
	}
	return ops
}

func TestP16MoreRangesThanAreKept(t *testing.T) {
	ops := manyRanges(9)
	got, l := checkLink(t, wideLink(), ops)
	if l.met["more ranges than are kept"] == 0 || len(ops) > 116 {
		t.Errorf("%d operations, %v", len(ops), l.met)
	}
	// One whose range is gone is taken as new, one that is kept isn't.
	for _, n := range []int{6, 9, 11, 13, 15, 30, len(l.air) - 1} {
		checkLink(t, wideLink(), append(slices.Clone(ops), linkDeliver(n), linkDeliver(n), linkCalm(3)))
	}
	if !bothOpen(got) {
		t.Errorf("%+v", got)
	}
}

// More than 600 datagrams: what is sent beyond is in no air, but was sent.
func TestP16MoreThanTheAirHolds(t *testing.T) {
	ops := []impl.LinkOp{linkOpen(0), linkOpen(0), linkOpen(0)}
	chunk := strings.Repeat("z", 16384)
	for round := range 10 {
		id := 4 * (round % 3)
		ops = append(ops, linkWrite(0, id, chunk), linkCalm(9), linkWrite(1, id, chunk), linkCalm(9), linkRead(0, id, 1<<20), linkRead(1, id, 1<<20))
	}
	obs, got, l := behindCalm(t, wideLink(), append(ops, linkDeliver(599), linkDeliver(600), linkTick(100000000), linkCalm(60))...)
	sent := 8
	for _, o := range obs {
		sent += o.Sent
	}
	if sent != 600 || len(l.air) != 600 || l.met["no room in the air"] == 0 {
		t.Errorf("%d are in the air, %d were sent", len(l.air), sent)
	}
	if last := len(ops); obs[last].Code != 0 || obs[last+1].Code != impl.ErrBad || obs[last+2].Sent != 0 {
		t.Errorf("%+v", obs[last:])
	}
	if got.Client.State != 1 || got.Client.Flight == 0 {
		t.Errorf("%+v", got.Client)
	}
	// Also what an end closes with, a list of versions, and a retry.
	checkLink(t, wideLink(), append(append([]impl.LinkOp{linkCalm(1)}, ops...), linkClose(0, 1), linkCalm(3)))
}

func TestP16KeysAreUpdated(t *testing.T) {
	for side := range 2 {
		other := 1 - side
		obs, got, l := behindCalm(t, plainLink(), linkOpen(side), linkUpdate(side), linkUpdate(side), linkWrite(side, side, "one"), linkCalm(1), linkRead(other, side, 9), linkUpdate(side), linkWrite(side, side, "two"), linkCalm(1), linkRead(other, side, 9), linkUpdate(other), linkUpdate(side), linkWrite(side, side, "three"), linkWrite(other, side, "four"), linkCalm(1), linkRead(other, side, 9), linkRead(side, side, 9))
		wantObsCodes(t, obs, 0, 0, 7, 0, 0, 0, 0, 0, 0, 0, 0, 0, 0, 0, 0, 0, 0)
		wantReads(t, obs, map[int]string{5: "one", 9: "two", 15: "three", 16: "four"})
		if !bothOpen(got) || l.met["keys followed"] != 6 || got.Client.Flight+got.Server.Flight != 0 {
			t.Errorf("%+v %v", got, l.met)
		}
	}
}

// The one that did not update itself does so when it hears the new phase; an old packet does not open any more.
func TestP16PacketsOfOldKeys(t *testing.T) {
	obs, got, l := behindCalm(t, plainLink(), linkOpen(0), linkWrite(0, 0, "old"), linkUpdate(0), linkWrite(0, 0, "new"), linkDeliver(9), linkDeliver(8), linkUpdate(0), linkDeliver(10), linkUpdate(0), linkLose(), linkCalm(9), linkRead(1, 0, 9))
	wantObsCodes(t, obs, 0, 0, 0, 0, 0, 0, 7, 0, 0, 0, 0, 0)
	if string(obs[11].Data) != "oldnew" || l.met["does not open"] == 0 || !bothOpen(got) {
		t.Errorf("%+v", obs)
	}
	// Twice without the other having heard of it: its packets of the phase between were lost, and nothing opens; nobody closes.
	obs, got, l = behindCalm(t, plainLink(), linkOpen(0), linkUpdate(0), linkWrite(0, 0, "a"), linkDeliver(8), linkLose(), linkUpdate(1), linkOpen(1), linkWrite(1, 1, "b"), linkCalm(9), linkRead(0, 1, 9))
	wantObsCodes(t, obs, 0, 0, 0, 0, 0, 0, 0, 0, 0, 7)
	if !bothOpen(got) || l.met["does not open"] == 0 {
		t.Errorf("%+v", got)
	}
	// An acknowledgement of the phase between mends it.
	obs, got, _ = behindCalm(t, plainLink(), linkOpen(0), linkUpdate(0), linkWrite(0, 0, "a"), linkDeliver(8), linkUpdate(1), linkOpen(1), linkWrite(1, 1, "b"), linkDeliver(10), linkDeliver(9), linkCalm(9), linkRead(0, 1, 9))
	if string(obs[10].Data) != "b" || got.Client.Flight+got.Server.Flight != 0 {
		t.Errorf("%+v", got)
	}
}

// Losses that an acknowledgement tells at once: three above it, or long behind it.
func TestP16LossesByAnAcknowledgement(t *testing.T) {
	for gap := 1; gap <= 4; gap++ {
		ops := []impl.LinkOp{linkOpen(0)}
		for range 5 {
			ops = append(ops, linkWrite(0, 0, "x"))
		}
		ops = append(ops, linkDeliver(8+gap), linkDeliver(13))
		obs, _, _ := behindCalm(t, plainLink(), append(ops, linkCalm(9), linkRead(1, 0, 99))...)
		// Number 1 is lost by 4, and 2 by 5.
		if want := max(0, min(1, gap-2)); obs[7].Sent != want || len(obs[9].Data) != 5 {
			t.Errorf("packet %d is acknowledged: %d are sent, want %d", gap, obs[7].Sent, want)
		}
	}
	// Nine eighths of the round trip ago, to a microsecond.
	for _, c := range []struct{ wait, sent int }{{8999, 0}, {9000, 1}} {
		obs, _, _ := behindCalm(t, plainLink(), linkOpen(0), linkWrite(0, 0, "a"), linkTick(c.wait-8000), linkWrite(0, 0, "b"), linkTick(8000), linkDeliver(9), linkDeliver(10), linkCalm(9), linkRead(1, 0, 9))
		if obs[6].Sent != c.sent || string(obs[8].Data) != "ab" {
			t.Errorf("%d ago: %+v", c.wait, obs)
		}
	}
}

// All frames that are told are told again when they are lost, behind those that wait.
func TestP16WhatIsToldAgain(t *testing.T) {
	s := plainLink()
	s.Client.TwoWay, s.Client.OneWay, s.Server.TwoWay, s.Server.OneWay = 1, 1, 1, 1
	ops := []impl.LinkOp{
		linkOpen(0), linkLast(0, 0, strings.Repeat("x", 2000)), linkCalm(9),
		linkRead(1, 0, 1500), linkRead(1, 0, 1500), linkStop(1, 0, 3), linkWrite(1, 0, "y"), linkReset(1, 0, 8), linkLose(),
		linkOpenOneWay(1), linkWrite(1, 3, "a"), linkWrite(1, 3, "b"), linkWrite(1, 3, "c"), linkWrite(1, 3, "d"),
	}
	obs, got, l := behindCalm(t, s, append(ops, linkCalm(30), linkOpen(0), linkRead(0, 0, 9), linkRead(0, 3, 9))...)
	if obs[15].Code != 0 || obs[16].Code != impl.ErrCancel || string(obs[17].Data) != "abcd" {
		t.Errorf("%+v", obs)
	}
	if l.met["told again"] < 4 || got.Client.Flight+got.Server.Flight != 0 {
		t.Errorf("%v %+v", l.met, got)
	}
	// The server's word that it is done, and the crypto bytes of all spaces.
	for first := range 8 {
		ops := append(linkEach(linkDeliver, rising(first, 0, 1)...), linkLose(), linkCalm(60), linkOpen(0), linkLast(0, 0, "x"), linkCalm(60), linkRead(1, 0, 9), linkCalm(60))
		got, _ := checkLink(t, plainLink(), ops)
		if string(got.Obs[len(ops)-2].Data) != "x" || got.Client.Flight+got.Server.Flight != 0 {
			t.Errorf("behind %d datagrams: %+v", first, got)
		}
	}
}

// 16 probes in a tick, each twice as long behind the last one as that behind the one ahead of it.
func TestP16ManyTimersInATick(t *testing.T) {
	obs, _, _ := behindCalm(t, plainLink(), linkOpen(1), linkWrite(1, 1, "x"), linkTick(1001*(1<<16-1)), linkTick(100000000), linkTick(100000000))
	if obs[2].Sent != 16 || obs[3].Sent != 1 || obs[4].Sent != 1 {
		t.Errorf("%+v", obs)
	}
	// Both ends, in all three spaces.
	ops := append(linkEach(linkDeliver, 0, 1, 2), linkOpen(0), linkWrite(0, 0, "x"), linkTick(100000000), linkTick(100000000), linkDeliver(4), linkTick(100000000))
	checkLink(t, plainLink(), ops)
}
