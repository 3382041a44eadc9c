package tests

import (
	"bytes"
	"fmt"
	"math"
	"math/big"
	"slices"
	"testing"

	"loop.example/g00012/impl"
)

const tokenLife = 60000000

func tokenMakeAsked(key, addr []byte, now int, origin []byte) ([]byte, int) {
	if len(key) != 16 || len(addr) > 24 || !isTime(now) || len(origin) > 8 {
		return nil, impl.ErrBad
	}
	return sealAsked(keysAsked(key), 0, addr, join(fixedBytes(now), origin)), impl.OK
}

// openAskedToken lays the stream over what is sealed, and looks whether sealing gives the same again.
func openAskedToken(key, addr, token []byte) ([]byte, bool) {
	if len(token) < 8 || len(token) > 1508 {
		return nil, false
	}
	k, covered := keysAsked(key), token[:len(token)-8]
	stream := sealAsked(k, 0, addr, zeroes(len(covered)))[:len(covered)]
	body := laidOver(covered, stream)
	return body, bytes.Equal(sealAsked(k, 0, addr, body), token)
}

func tokenCheckAsked(key, addr []byte, now int, token []byte) ([]byte, int) {
	if len(key) != 16 || len(addr) > 24 || !isTime(now) {
		return nil, impl.ErrBad
	}
	body, ok := openAskedToken(key, addr, token)
	if !ok || !inRange(len(body), 8, 16) {
		return nil, impl.ErrToken
	}
	made := new(big.Int).SetBytes(body[:8])
	if made.Cmp(wide(maxTime)) > 0 || made.Cmp(wide(now)) > 0 || minus(wide(now), made).Cmp(wide(tokenLife)) > 0 {
		return nil, impl.ErrToken
	}
	return body[8:], impl.OK
}

func checkTokenMake(t *testing.T, key, addr []byte, now int, origin, want []byte, code int) {
	t.Helper()
	got, gotCode := impl.TokenMake(key, addr, now, origin)
	if gotCode != code || !bytes.Equal(got, want) {
		t.Errorf("TokenMake(%x, %x, %d, %x) = %x %d, want %x %d", key, addr, now, origin, got, gotCode, want, code)
	}
}

func checkTokenMakeAsked(t *testing.T, key, addr []byte, now int, origin []byte) []byte {
	t.Helper()
	want, code := tokenMakeAsked(key, addr, now, origin)
	checkTokenMake(t, key, addr, now, origin, want, code)
	return want
}

func checkToken(t *testing.T, key, addr []byte, now int, token, want []byte, code int) {
	t.Helper()
	got, gotCode := impl.TokenCheck(key, addr, now, token)
	if gotCode != code || !bytes.Equal(got, want) {
		t.Errorf("TokenCheck(%x, %x, %d, %d bytes %x) = %x %d, want %x %d", key, addr, now, len(token), token[:min(40, len(token))], got, gotCode, want, code)
	}
}

func checkTokenAsked(t *testing.T, key, addr []byte, now int, token []byte) int {
	t.Helper()
	want, code := tokenCheckAsked(key, addr, now, token)
	checkToken(t, key, addr, now, token, want, code)
	return code
}

func refusesToken(t *testing.T, key, addr []byte, now int, token []byte, code int) {
	t.Helper()
	checkToken(t, key, addr, now, token, nil, code)
	checkTokenAsked(t, key, addr, now, token)
}

// The tokens were worked out by a second program.
func TestP14TokensWorkedOutElsewhere(t *testing.T) {
	for _, c := range []struct {
		key, addr []byte
		now       int
		origin    []byte
		token     string
	}{
		{zeroes(16), []byte("addr"), 5000, []byte{1, 2}, "bf2eb66f9d077e13ac46f593be57bc002077"},
		{countedSecret(), nil, 0, nil, "90d6455c2580f8d1908194b0a51c035f"},
		{countedSecret(), rowOf(24, 1, 256), maxTime, []byte{1, 2, 3, 4, 5, 6, 7, 8}, "90d645b4f125e8d150c798930a23e3b39ebe0261ce37b419"},
		{bytes.Repeat([]byte{255}, 16), []byte{7}, 60000000, zeroes(8), "df1e423c54943bdf2f779f03661afcf341b618c8775b4609"},
	} {
		token := unhex(t, c.token)
		checkTokenMake(t, c.key, c.addr, c.now, c.origin, token, impl.OK)
		checkTokenMakeAsked(t, c.key, c.addr, c.now, c.origin)
		checkToken(t, c.key, c.addr, c.now, token, c.origin, impl.OK)
		checkTokenAsked(t, c.key, c.addr, c.now, token)
	}
}

// tokenTimes are the times at which a token is asked that was made at made, the edges among them.
func tokenTimes(made int) []int {
	return []int{made, made + 1, made - 1, made + 1000, made + tokenLife - 1, made + tokenLife, made + tokenLife + 1, made + 2*tokenLife, made - tokenLife, 0, 1, maxTime - 1, maxTime}
}

// checkTokenTimes tells whether a token is right in its time alone, and gives back the id.
func checkTokenTimes(t *testing.T, key, addr []byte, made int, origin []byte) {
	t.Helper()
	token := checkTokenMakeAsked(t, key, addr, made, origin)
	for _, now := range tokenTimes(made) {
		switch {
		case !isTime(now):
			refusesToken(t, key, addr, now, token, impl.ErrBad)
		case inRange(now, made, made+tokenLife):
			checkToken(t, key, addr, now, token, origin, impl.OK)
		default:
			refusesToken(t, key, addr, now, token, impl.ErrToken)
		}
	}
}

func TestP14InItsTimeAlone(t *testing.T) {
	for _, made := range []int{0, 1, 255, 256, 5000, tokenLife - 1, tokenLife, tokenLife + 1, 1 << 32, maxTime - tokenLife - 1, maxTime - tokenLife, maxTime - tokenLife + 1, maxTime - 1, maxTime} {
		checkTokenTimes(t, countedSecret(), []byte("here"), made, []byte("origin"))
	}
}

func TestP14EveryLength(t *testing.T) {
	for count := range 25 {
		for from := range 9 {
			checkTokenTimes(t, countedSecret(), rowOf(count, 3, 251), 777+count, rowOf(from, 5, 253))
			token, _ := impl.TokenMake(countedSecret(), rowOf(count, 3, 251), 777, rowOf(from, 5, 253))
			if len(token) != 16+from {
				t.Errorf("a token of an id of %d bytes has %d", from, len(token))
			}
		}
	}
	for _, origin := range [][]byte{{0}, {255}, {0, 0}, zeroes(8), bytes.Repeat([]byte{255}, 8)} {
		checkTokenTimes(t, zeroes(16), zeroes(24), 9, origin)
	}
}

func TestTokensWrongArguments(t *testing.T) {
	key, addr, origin := countedSecret(), []byte("here"), []byte("origin")
	token, _ := impl.TokenMake(key, addr, 5, origin)
	refuses := func(key, addr []byte, now int, origin []byte) {
		t.Helper()
		checkTokenMake(t, key, addr, now, origin, nil, impl.ErrBad)
		checkTokenMakeAsked(t, key, addr, now, origin)
	}
	for _, count := range []int{0, 1, 8, 15, 17, 24, 32, 272, 70000} {
		wrong := rowOf(count, 1, 256)
		refuses(wrong, addr, 5, origin)
		refusesToken(t, wrong, addr, 5, token, impl.ErrBad)
		refusesToken(t, wrong, addr, 5, nil, impl.ErrBad)
		refusesToken(t, wrong, addr, 4, token, impl.ErrBad)
	}
	for _, count := range []int{25, 26, 32, 280, 70000} {
		wrong := rowOf(count, 1, 256)
		refuses(key, wrong, 5, origin)
		refusesToken(t, key, wrong, 5, token, impl.ErrBad)
		refusesToken(t, key, wrong, 5, nil, impl.ErrBad)
		refusesToken(t, key, wrong, 4, token, impl.ErrBad)
	}
	for _, now := range []int{-1, -5, maxTime + 1, maxTime + 5, math.MinInt, math.MaxInt} {
		refuses(key, addr, now, origin)
		refusesToken(t, key, addr, now, token, impl.ErrBad)
		refusesToken(t, key, addr, now, nil, impl.ErrBad)
		refusesToken(t, key, addr, now, zeroes(70000), impl.ErrBad)
	}
	for _, count := range []int{9, 10, 16, 264, 70000} {
		refuses(key, addr, 5, rowOf(count, 1, 256))
	}
	// A token that was sealed with such a head is none, as the head may not be.
	long := rowOf(25, 1, 256)
	refusesToken(t, key, long, 5, sealAsked(keysAsked(key), 0, long, fixedBytes(5)), impl.ErrBad)
}

func TestP14AnotherAddress(t *testing.T) {
	key, origin := countedSecret(), []byte("origin")
	addrs := [][]byte{nil, {0}, {0, 0}, {1}, {0, 1}, {1, 0}, []byte("here"), []byte("her"), []byte("here\x00"), []byte("Here"), []byte("ereh"), zeroes(23), zeroes(24), rowOf(24, 1, 256), rowOf(23, 1, 256)}
	for i, addr := range addrs {
		token, _ := impl.TokenMake(key, addr, 100, origin)
		for j, other := range addrs {
			if i == j {
				checkToken(t, key, other, 100, token, origin, impl.OK)
			} else {
				refusesToken(t, key, other, 100, token, impl.ErrToken)
			}
		}
		for at := range addr {
			for bit := range 8 {
				other := slices.Clone(addr)
				other[at] ^= 1 << bit
				refusesToken(t, key, other, 100, token, impl.ErrToken)
			}
		}
	}
}

func TestP14AnotherKey(t *testing.T) {
	key, addr, origin := countedSecret(), []byte("here"), []byte("origin")
	token, _ := impl.TokenMake(key, addr, 100, origin)
	for at := range key {
		for bit := range 8 {
			other := slices.Clone(key)
			other[at] ^= 1 << bit
			refusesToken(t, other, addr, 100, token, impl.ErrToken)
		}
	}
	refusesToken(t, zeroes(16), addr, 100, token, impl.ErrToken)
	refusesToken(t, impl.NextKeys(impl.KeysOf(key)).Secret, addr, 100, token, impl.ErrToken)
}

func TestP14SpoiltTokens(t *testing.T) {
	key, addr := countedSecret(), []byte("here")
	for _, origin := range [][]byte{nil, []byte("o"), []byte("12345678")} {
		token, _ := impl.TokenMake(key, addr, 100, origin)
		for at := range token {
			for bit := range 8 {
				spoilt := slices.Clone(token)
				spoilt[at] ^= 1 << bit
				refusesToken(t, key, addr, 100, spoilt, impl.ErrToken)
			}
			refusesToken(t, key, addr, 100, token[:at], impl.ErrToken)
			refusesToken(t, key, addr, 100, token[len(token)-at:], impl.ErrToken)
		}
		for _, more := range [][]byte{{0}, {255}, token, zeroes(8)} {
			refusesToken(t, key, addr, 100, join(token, more), impl.ErrToken)
			refusesToken(t, key, addr, 100, join(more, token), impl.ErrToken)
		}
	}
	for _, count := range []int{0, 1, 7, 8, 9, 15, 16, 17, 24, 25, 1500, 1508, 1509, 65536, 65537, 200000} {
		refusesToken(t, key, addr, 100, zeroes(count), impl.ErrToken)
	}
}

// What opens is a token only if its body has as many bytes as a time and an id have.
func TestP14SealedBodies(t *testing.T) {
	key, addr := countedSecret(), []byte("here")
	for _, count := range []int{0, 1, 6, 7} {
		refusesToken(t, key, addr, 0, sealAsked(keysAsked(key), 0, addr, zeroes(count)), impl.ErrToken)
		refusesToken(t, key, addr, maxTime, sealAsked(keysAsked(key), 0, addr, zeroes(count)), impl.ErrToken)
	}
	for count := 8; count <= 16; count++ {
		sealed := sealAsked(keysAsked(key), 0, addr, join(fixedBytes(7), rowOf(count-8, 1, 256)))
		checkToken(t, key, addr, 7, sealed, rowOf(count-8, 1, 256), impl.OK)
		checkTokenAsked(t, key, addr, 7, sealed)
	}
	for _, count := range []int{17, 18, 24, 32, 264, 1400, 1490, 1496} {
		sealed := sealAsked(keysAsked(key), 0, addr, join(fixedBytes(7), rowOf(count-8, 1, 256)))
		refusesToken(t, key, addr, 7, sealed, impl.ErrToken)
	}
	// Sealed with another number.
	for _, num := range []int{1, 2, 255, maxVar} {
		refusesToken(t, key, addr, 7, sealAsked(keysAsked(key), num, addr, fixedBytes(7)), impl.ErrToken)
	}
}

// A time that is above MaxTime is none, also where it has no place in an int, or the way round to now is short.
func TestP14TimesAboveTheGreatest(t *testing.T) {
	key, addr := countedSecret(), []byte("here")
	for _, made := range []uint64{maxTime + 1, maxTime + 2, 1 << 41, 1<<62 - 1, 1<<63 - 1, 1 << 63, 1<<63 + 1, 1<<63 + 5000, math.MaxUint64, math.MaxUint64 - 1, math.MaxUint64 - tokenLife, math.MaxUint64 - tokenLife + 1} {
		body := make([]byte, 8)
		for i := range body {
			body[i] = byte(made >> (8 * (7 - i)))
		}
		for _, now := range []int{0, 1, 5000, tokenLife - 2, tokenLife - 1, tokenLife, maxTime - 1, maxTime} {
			refusesToken(t, key, addr, now, sealAsked(keysAsked(key), 0, addr, body), impl.ErrToken)
			refusesToken(t, key, addr, now, sealAsked(keysAsked(key), 0, addr, join(body, []byte("origin"))), impl.ErrToken)
		}
	}
	checkToken(t, key, addr, maxTime, sealAsked(keysAsked(key), 0, addr, fixedBytes(maxTime)), nil, impl.OK)
}

func TestP14TokensDrawn(t *testing.T) {
	more := numbers(103)
	right, wrong, old := 0, 0, 0
	for range 4000 {
		key, addr, origin, made := more.bytes(16), more.bytes(more.below(25)), more.bytes(more.below(9)), drawnTime(&more)
		token := checkTokenMakeAsked(t, key, addr, made, origin)
		later := min(maxTime, made+more.below(tokenLife+1))
		checkToken(t, key, addr, later, token, origin, impl.OK)
		now := near(&more, made, made+tokenLife, maxTime)
		if isTime(now) && more.below(2) == 0 {
			now = drawnTime(&more)
		}
		old += way(checkTokenAsked(t, key, addr, now, token) == impl.ErrToken)
		switch more.below(4) {
		case 0:
			key = more.bytes(16)
		case 1:
			addr = more.bytes(more.below(25))
		case 2:
			token = more.bytes(more.below(30))
		}
		code := checkTokenAsked(t, key, addr, later, token)
		right, wrong = right+way(code == impl.OK), wrong+way(code == impl.ErrToken)
	}
	if min(right, wrong, old) < 500 {
		t.Errorf("%d tokens were right, %d wrong, %d not in their time", right, wrong, old)
	}
}

func TestP1TokensTakeAnyIntegers(t *testing.T) {
	key, addr, origin := countedSecret(), []byte("here"), []byte("origin")
	token, _ := impl.TokenMake(key, addr, 1<<31, origin)
	for _, v := range append(oddInts(), maxTime-1, maxTime, maxTime+1) {
		mustEnd(t, fmt.Sprintf("tokens at %d", v), func() {
			checkTokenAsked(t, key, addr, v, token)
			checkTokenAsked(t, nil, nil, v, nil)
			if made := checkTokenMakeAsked(t, key, addr, v, origin); isTime(v) {
				checkToken(t, key, addr, v, made, origin, impl.OK)
			}
		})
	}
	mustEnd(t, "tokens of nothing", func() {
		checkTokenMake(t, nil, nil, 0, nil, nil, impl.ErrBad)
		checkToken(t, nil, nil, 0, nil, nil, impl.ErrBad)
		checkToken(t, key, nil, 0, nil, nil, impl.ErrToken)
		checkToken(t, key, []byte{}, 0, []byte{}, nil, impl.ErrToken)
	})
}

// An empty list and nil are the same.
func TestP1TokensOfEmptyLists(t *testing.T) {
	key := countedSecret()
	for _, addr := range [][]byte{nil, {}} {
		for _, origin := range [][]byte{nil, {}} {
			checkTokenMake(t, key, addr, 0, origin, unhex(t, "90d6455c2580f8d1908194b0a51c035f"), impl.OK)
		}
		checkToken(t, key, addr, 0, unhex(t, "90d6455c2580f8d1908194b0a51c035f"), nil, impl.OK)
	}
}

func TestP1TokensMemory(t *testing.T) {
	for _, counts := range [][2]int{{0, 0}, {4, 6}, {24, 8}, {25, 8}, {4, 9}} {
		key, addr, origin := amid(countedSecret(), 0xee), amid(rowOf(counts[0], 3, 256), 0xdd), amid(rowOf(counts[1], 5, 256), 0xcc)
		made, _ := impl.TokenMake(key.list, addr.list, 500, origin.list)
		token := amid(made, 0xbb)
		unchanged := func() {
			t.Helper()
			for _, list := range []fenced[byte]{key, addr, origin, token} {
				list.check(t, "TokenMake or TokenCheck")
			}
		}
		checkFresh(t, "TokenMake", func() [][]byte {
			answer, _ := impl.TokenMake(key.list, addr.list, 500, origin.list)
			return [][]byte{answer}
		}, unchanged)
		checkFresh(t, "TokenCheck", func() [][]byte {
			answer, _ := impl.TokenCheck(key.list, addr.list, 500, token.list)
			return [][]byte{answer}
		}, unchanged)
		checkTokenMakeAsked(t, key.list, addr.list, 500, origin.list)
		checkTokenAsked(t, key.list, addr.list, 500, token.list)
		checkTokenAsked(t, key.list, addr.list, 499, token.list)
		unchanged()
	}
}

// The arguments may lie in one memory.
func TestP1TokensThatLieTogether(t *testing.T) {
	row := amid(rowOf(40, 7, 256), 0xee)
	for _, ends := range [][6]int{{0, 16, 0, 16, 0, 8}, {0, 16, 8, 32, 12, 20}, {20, 36, 0, 24, 16, 24}, {0, 16, 16, 16, 16, 16}} {
		key, addr, origin := row.list[ends[0]:ends[1]], row.list[ends[2]:ends[3]], row.list[ends[4]:ends[5]]
		token := checkTokenMakeAsked(t, key, addr, 5, origin)
		checkToken(t, key, addr, 5, token, origin, impl.OK)
		row.check(t, "TokenMake")
	}
	checkTokenAsked(t, row.list[:16], row.list[:24], 5, row.list[:24])
	row.check(t, "TokenCheck")
}
