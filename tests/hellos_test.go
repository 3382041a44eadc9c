package tests

import (
	"bytes"
	"fmt"
	"math"
	"reflect"
	"slices"
	"strings"
	"testing"

	"loop.example/g00012/impl"
)

func noneTwice[T comparable](list []T) bool {
	for i, each := range list {
		if slices.Contains(list[:i], each) {
			return false
		}
	}
	return true
}

func versionOK(v int) bool { return inRange(v, 1, 4294967295) }

func nameOK(name string) bool { return inRange(len(name), 1, 16) }

func allOf[T any](list []T, ok func(T) bool) bool {
	return !slices.ContainsFunc(list, func(each T) bool { return !ok(each) })
}

func helloOKAsked(h impl.Hello) bool {
	if len(h.Random) != 16 || !allOf(h.Names, nameOK) {
		return false
	}
	switch h.Kind {
	case 1:
		return inRange(len(h.Versions), 1, 8) && allOf(h.Versions, versionOK) && noneTwice(h.Versions) &&
			inRange(len(h.Names), 1, 4) && noneTwice(h.Names) && h.Version == 0 && paramsOKAsked(h.Params, false)
	case 2:
		return versionOK(h.Version) && len(h.Versions) == 0 && len(h.Names) == 1 && paramsOKAsked(h.Params, true)
	}
	return false
}

// helloAround puts kind and count ahead of what follows.
func helloAround(kind int, parts ...[]byte) []byte {
	follows := join(parts...)
	return join([]byte{byte(kind), byte(len(follows) / 256), byte(len(follows) % 256)}, follows)
}

// helloParts are what follows: random bytes, versions, names, parameters.
func helloParts(h impl.Hello) [][]byte {
	versions := fourBytes(uint64(h.Version))
	if h.Kind == 1 {
		versions = []byte{byte(len(h.Versions))}
		for _, v := range h.Versions {
			versions = join(versions, fourBytes(uint64(v)))
		}
	}
	names := []byte{byte(len(h.Names))}
	for _, name := range h.Names {
		names = join(names, countAhead([]byte(name)))
	}
	return [][]byte{h.Random, versions, names, join(entriesAsked(h.Params, h.Kind == 2)...)}
}

func helloBytesAsked(h impl.Hello) ([]byte, int) {
	if !helloOKAsked(h) {
		return nil, impl.ErrBad
	}
	return helloAround(h.Kind, helloParts(h)...), impl.OK
}

// plainHello has nil for empty lists: they are the same.
func plainHello(h impl.Hello) impl.Hello {
	if len(h.Random) == 0 {
		h.Random = nil
	}
	if len(h.Versions) == 0 {
		h.Versions = nil
	}
	if len(h.Names) == 0 {
		h.Names = nil
	}
	h.Params = plainLists(h.Params)
	return h
}

func sameHello(a, b impl.Hello) bool { return reflect.DeepEqual(plainHello(a), plainHello(b)) }

func toldHello(h impl.Hello) string {
	return fmt.Sprintf("kind %d, version %d, %d random bytes, versions %v, names %.100q, %+v", h.Kind, h.Version, len(h.Random), h.Versions[:min(len(h.Versions), 10)], h.Names[:min(len(h.Names), 6)], h.Params)
}

// checkHello asks HelloBytes, and has what was written read again, also ahead of other bytes.
func checkHello(t *testing.T, h impl.Hello, want []byte, code int) {
	t.Helper()
	got, gotCode := impl.HelloBytes(h)
	if gotCode != code || !bytes.Equal(got, want) {
		t.Errorf("HelloBytes(%s) = %x %d, want %x %d", toldHello(h), got, gotCode, want, code)
	}
	if code == impl.OK {
		checkReadHello(t, want, h, len(want), impl.OK)
		checkReadHello(t, join(want, []byte{1, 0, 3}), h, len(want), impl.OK)
	}
}

func checkHelloAsked(t *testing.T, h impl.Hello) bool {
	t.Helper()
	want, code := helloBytesAsked(h)
	checkHello(t, h, want, code)
	return code == impl.OK
}

func refusesHello(t *testing.T, h impl.Hello) {
	t.Helper()
	checkHello(t, h, nil, impl.ErrBad)
	checkHelloAsked(t, h)
}

func takesHello(t *testing.T, h impl.Hello) {
	t.Helper()
	if !checkHelloAsked(t, h) {
		t.Errorf("%s is not valid", toldHello(h))
	}
}

func clientHello() impl.Hello {
	return impl.Hello{Kind: 1, Random: rowOf(16, 1, 256), Versions: []int{2, 1, 4294967295}, Names: []string{"hyper", "h", "sixteen bytes me"}, Params: clientParams()}
}

func serverHello() impl.Hello {
	return impl.Hello{Kind: 2, Random: rowOf(16, 3, 256), Version: 1, Names: []string{"h"}, Params: serverParams()}
}

func leastClient() impl.Hello {
	return impl.Hello{Kind: 1, Random: zeroes(16), Versions: []int{1}, Names: []string{"a"}, Params: leastParams()}
}

func leastServer() impl.Hello {
	return impl.Hello{Kind: 2, Random: zeroes(16), Version: 1, Names: []string{"a"}, Params: leastParams()}
}

func mostClient() impl.Hello {
	h := impl.Hello{Kind: 1, Random: bytes.Repeat([]byte{255}, 16), Params: mostParams()}
	for i := range 8 {
		h.Versions = append(h.Versions, 4294967295-i)
	}
	for i := range 4 {
		h.Names = append(h.Names, strings.Repeat(string([]byte{byte(i + 1)}), 16))
	}
	return h
}

func mostServer() impl.Hello {
	return impl.Hello{Kind: 2, Random: bytes.Repeat([]byte{255}, 16), Version: 4294967288, Names: []string{strings.Repeat("\x04", 16)}, Params: mostServerParams()}
}

func plainHellos() []impl.Hello {
	return []impl.Hello{clientHello(), serverHello(), leastClient(), leastServer(), mostClient(), mostServer()}
}

// eachHello has every plain hello changed by change.
func eachHello(ask func(h impl.Hello), change func(h *impl.Hello)) {
	for _, h := range plainHellos() {
		change(&h)
		ask(h)
	}
}

// The bytes were worked out by a second program.
func TestP5HellosWorkedOutElsewhere(t *testing.T) {
	for i, b := range []string{
		"010064000102030405060708090a0b0c0d0e0f030000000200000001ffffffff030568797065720168107369787465656e206279746573206d65010481c9c380030245dc04025f4005024bb80801040901030b04800061a80e01040f06636c69656e7420024064",
		"020050000306090c0f1215181b1e2124272a2d0000000101016800056669727374010100020831323334353637380302451404013f050240400801020901050b0243e80c000e01030f06736572766572200100",
		"010036000000000000000000000000000000000100000001010161010100030244b00401010501010801000901000b01000e01020f00200100",
		"02003700000000000000000000000000000000000000010101610000010100030244b00401010501010801000901000b01000e01020f00200100",
		"0100b1ffffffffffffffffffffffffffffffff08fffffffffffffffefffffffdfffffffcfffffffbfffffffafffffff9fffffff80410010101010101010101010101010101011002020202020202020202020202020202100303030303030303030303030303030310040404040404040404040404040404040108c00000e8d4a51000030247d004048000400005048000400008024040090240400b04800f42400c000e01100f08000306090c0f1215200245dc",
		"020075fffffffffffffffffffffffffffffffffffffff8011004040404040404040404040404040404000800050a0f14191e230108c00000e8d4a51000020800070e151c232a31030247d004048000400005048000400008024040090240400b04800f42400c000e01100f08000306090c0f1215200245dc",
	} {
		h := plainHellos()[i]
		checkHello(t, h, unhex(t, b), impl.OK)
		takesHello(t, h)
	}
}

func TestHelloKinds(t *testing.T) {
	for _, kind := range []int{0, 3, -1, -2, 4, 255, 256, 257, 258, math.MinInt, math.MaxInt} {
		eachHello(func(h impl.Hello) { refusesHello(t, h) }, func(h *impl.Hello) { h.Kind = kind })
	}
	// A hello of one kind under the other's number.
	eachHello(func(h impl.Hello) { refusesHello(t, h) }, func(h *impl.Hello) { h.Kind = 3 - h.Kind })
	refusesHello(t, impl.Hello{})
	refusesHello(t, impl.Hello{Kind: 1})
	refusesHello(t, impl.Hello{Kind: 2})
}

func TestHelloRandom(t *testing.T) {
	for _, n := range []int{0, 1, 8, 14, 15, 17, 18, 24, 32, 272, 65536, 65537} {
		eachHello(func(h impl.Hello) { refusesHello(t, h) }, func(h *impl.Hello) { h.Random = rowOf(n, 1, 256) })
	}
	more := numbers(124)
	for range 50 {
		eachHello(func(h impl.Hello) { takesHello(t, h) }, func(h *impl.Hello) { h.Random = more.bytes(16) })
	}
}

func TestHelloVersionsOfAClient(t *testing.T) {
	all := []int{5, 4294967295, 1, 256, 65536, 1 << 24, 1 << 31, 0x01020304, 9, 10}
	for count := range 11 {
		h := clientHello()
		h.Versions = all[:count]
		if inRange(count, 1, 8) {
			takesHello(t, h)
		} else {
			refusesHello(t, h)
		}
	}
	for _, count := range []int{9, 255, 256, 257, 264, 4096, 4097} {
		h := clientHello()
		h.Versions = rising(count, 1, 1)
		refusesHello(t, h)
	}
	for count := 1; count <= 8; count++ {
		for place := range count {
			h := clientHello()
			h.Versions = slices.Clone(all[:count])
			for _, v := range []int{0, -1, -5, 4294967296, 4294967297, maxVar, math.MinInt, math.MaxInt} {
				h.Versions[place] = v
				refusesHello(t, h)
			}
			for _, v := range []int{2, 3, 4294967294} {
				h.Versions[place] = v
				takesHello(t, h)
			}
			for other := range place {
				h.Versions[place] = h.Versions[other]
				refusesHello(t, h)
			}
		}
	}
}

func TestHelloNamesOfAClient(t *testing.T) {
	all := []string{"ab", "a", "sixteen bytes me", "\x00\xff\x80", "ab ", "b", "c"}
	for count := range 8 {
		h := clientHello()
		h.Names = all[:count]
		if inRange(count, 1, 4) {
			takesHello(t, h)
		} else {
			refusesHello(t, h)
		}
	}
	for count := 1; count <= 4; count++ {
		for place := range count {
			h := clientHello()
			h.Names = slices.Clone(all[:count])
			for _, n := range []int{0, 17, 18, 64, 256, 257, 272, 65536, 70000} {
				h.Names[place] = strings.Repeat("x", n)
				refusesHello(t, h)
			}
			for n := 1; n <= 16; n++ {
				h.Names[place] = strings.Repeat("x", n)
				takesHello(t, h)
			}
			for other := range place {
				h.Names[place] = h.Names[other]
				refusesHello(t, h)
			}
		}
	}
	for _, pair := range [][]string{{"a", "A"}, {"a", "aa"}, {"a", "a "}, {"\xff", "\xfe"}, {"\x00", "\x00\x00"}, {"ä", "a"}} {
		h := clientHello()
		h.Names = pair
		takesHello(t, h)
	}
	// A name's length is one of bytes.
	h := clientHello()
	h.Names = []string{"ääääääää"}
	takesHello(t, h)
	h.Names = []string{"äääääääää"}
	refusesHello(t, h)
	h.Names = slices.Repeat([]string{"a"}, 5000)
	refusesHello(t, h)
}

func TestHelloVersionOfAClient(t *testing.T) {
	for _, v := range []int{1, 2, -1, 4294967295, 4294967296, math.MinInt, math.MaxInt} {
		for _, h := range []impl.Hello{clientHello(), leastClient(), mostClient()} {
			h.Version = v
			refusesHello(t, h)
		}
	}
}

func TestHelloOfAServer(t *testing.T) {
	for _, plain := range []impl.Hello{serverHello(), leastServer(), mostServer()} {
		h := plain
		for _, v := range []int{0, -1, 4294967296, 4294967297, math.MinInt, math.MaxInt} {
			h.Version = v
			refusesHello(t, h)
		}
		for _, v := range []int{1, 2, 255, 256, 0x01020304, 4294967294, 4294967295} {
			h.Version = v
			takesHello(t, h)
		}
		for _, list := range [][]int{{1}, {0}, {1, 2}, {plain.Version}, rising(8, 1, 1), rising(4097, 1, 1)} {
			h := plain
			h.Versions = list
			refusesHello(t, h)
		}
		for _, list := range [][]string{nil, {}, {""}, {"a", "b"}, {"a", "a"}, {"a", ""}, {strings.Repeat("x", 17)}, {"a", "b", "c", "d"}, slices.Repeat([]string{"a"}, 257)} {
			h := plain
			h.Names = list
			refusesHello(t, h)
		}
		for n := 1; n <= 16; n++ {
			h := plain
			h.Names = []string{strings.Repeat("x", n)}
			takesHello(t, h)
		}
	}
}

// The parameters are those of the side that the hello is of, whichever of them are wrong.
func TestHelloParams(t *testing.T) {
	h := clientHello()
	for _, change := range []func(p *impl.Params){
		func(p *impl.Params) { p.Origin = []byte{1} },
		func(p *impl.Params) { p.Token = zeroes(8) },
		func(p *impl.Params) { *p = serverParams() },
		func(p *impl.Params) { *p = impl.Params{} },
	} {
		h.Params = clientParams()
		change(&h.Params)
		refusesHello(t, h)
	}
	for _, p := range wrongParams() {
		s := serverHello()
		s.Params = p
		refusesHello(t, s)
	}
	s := serverHello()
	s.Params = clientParams()
	takesHello(t, s)
	for _, row := range paramRows {
		for _, v := range fieldEdges(row) {
			eachHello(func(h impl.Hello) {
				if taken := checkHelloAsked(t, h); taken != inRange(v, row.least, row.most) {
					t.Errorf("entry %d with %d: %v", row.number, v, taken)
				}
			}, func(h *impl.Hello) { *row.field(&h.Params) = v })
		}
	}
}

func TestHelloTwoFaultsAtOnce(t *testing.T) {
	faults := []func(h *impl.Hello){
		func(h *impl.Hello) { h.Kind = 0 },
		func(h *impl.Hello) { h.Version = -1 },
		func(h *impl.Hello) { h.Random = zeroes(15) },
		func(h *impl.Hello) { h.Versions = []int{1, 1} },
		func(h *impl.Hello) { h.Names = []string{"", ""} },
		func(h *impl.Hello) { h.Params.Ids = 17 },
		func(h *impl.Hello) { h.Params.First = zeroes(9) },
	}
	for _, one := range faults {
		for _, other := range faults {
			eachHello(func(h impl.Hello) { refusesHello(t, h) }, func(h *impl.Hello) {
				one(h)
				other(h)
			})
		}
	}
}

func (n *numbers) name() string { return string(n.bytes(1 + n.below(16))) }

// drawnClient is valid, but for chance.
func drawnClient(more *numbers) impl.Hello {
	h := impl.Hello{Kind: 1, Random: more.bytes(16), Params: drawnParams(more, false)}
	for range 1 + more.below(8) {
		h.Versions = append(h.Versions, 1+int(more.next()>>(32+more.below(32)))%4294967295)
	}
	for range 1 + more.below(4) {
		h.Names = append(h.Names, more.name())
	}
	return h
}

func drawnServer(more *numbers) impl.Hello {
	return impl.Hello{Kind: 2, Random: more.bytes(16), Version: 1 + int(more.next()>>(32+more.below(32)))%4294967295, Names: []string{more.name()}, Params: drawnParams(more, true)}
}

// drawnHello is spoilt now and then.
func drawnHello(more *numbers) impl.Hello {
	h := drawnClient(more)
	if more.below(2) == 0 {
		h = drawnServer(more)
	}
	switch more.below(30) {
	case 0:
		h.Kind = near(more, 1, 2)
	case 1:
		h.Version = near(more, 0, 1, 4294967295)
	case 2:
		h.Random = more.bytes(more.below(20))
	case 3:
		h.Versions = append(h.Versions, near(more, 1, 4294967295))
	case 4:
		h.Names = append(h.Names, string(more.bytes(more.below(19))))
	case 5:
		h.Names = append(h.Names, h.Names[0])
	}
	return h
}

func TestP5HellosDrawn(t *testing.T) {
	more := numbers(125)
	right, wrong := 0, 0
	for range 6000 {
		if checkHelloAsked(t, drawnHello(&more)) {
			right++
		} else {
			wrong++
		}
	}
	if min(right, wrong) < 500 {
		t.Errorf("%d were valid, %d not", right, wrong)
	}
}

func TestP1HellosTakeAnyIntegers(t *testing.T) {
	for _, v := range oddInts() {
		mustEnd(t, fmt.Sprintf("hellos with %d", v), func() {
			for _, change := range []func(h *impl.Hello){
				func(h *impl.Hello) { h.Kind = v },
				func(h *impl.Hello) { h.Version = v },
				func(h *impl.Hello) { h.Versions = []int{v} },
				func(h *impl.Hello) { h.Versions = []int{3, v} },
				func(h *impl.Hello) { h.Params.Idle = v },
				func(h *impl.Hello) { h.Version, h.Versions, h.Params.Size = v, []int{v, -v, v}, v },
			} {
				eachHello(func(h impl.Hello) { checkHelloAsked(t, h) }, change)
			}
		})
	}
}

// fencedHello has each list within a longer one, those of the parameters too.
type fencedHello struct {
	h, before impl.Hello
	random    fenced[byte]
	versions  fenced[int]
	names     fenced[string]
	params    fencedParams
}

func fenceHello(h impl.Hello) fencedHello {
	f := fencedHello{h: h, random: amid(h.Random, 0xee), versions: amid(h.Versions, 77), names: amid(h.Names, "mark"), params: fenceParams(h.Params)}
	f.h.Random, f.h.Versions, f.h.Names, f.h.Params = f.random.list, f.versions.list, f.names.list, f.params.p
	f.before = f.h
	return f
}

func (f fencedHello) check(t *testing.T, call string) {
	t.Helper()
	f.random.check(t, call)
	f.versions.check(t, call)
	f.names.check(t, call)
	f.params.check(t, call)
	if !reflect.DeepEqual(f.h, f.before) {
		t.Errorf("%s wrote into its argument", call)
	}
}

func wrongHellos() []impl.Hello {
	kind, random, twice, name, params := clientHello(), serverHello(), clientHello(), clientHello(), serverHello()
	kind.Kind, random.Random, twice.Versions, name.Names, params.Params.Ids = 2, zeroes(15), []int{1, 1}, []string{"a", ""}, 1
	return []impl.Hello{kind, random, twice, name, params, {}}
}

func TestP1HelloBytesMemory(t *testing.T) {
	for _, h := range append(wrongHellos(), plainHellos()...) {
		arg := fenceHello(h)
		checkFresh(t, "HelloBytes", func() [][]byte {
			b, _ := impl.HelloBytes(arg.h)
			return [][]byte{b}
		}, func() { arg.check(t, "HelloBytes") })
		checkHelloAsked(t, arg.h)
	}
}

// The lists of an argument may lie in one memory.
func TestP1HellosThatLieTogether(t *testing.T) {
	row := amid(rowOf(40, 7, 256), 0xee)
	h := serverHello()
	h.Random, h.Params.Origin, h.Params.Token, h.Params.First = row.list[2:18], row.list[:8], row.list[4:12], row.list[16:20]
	b, _ := impl.HelloBytes(h)
	spoil(b)
	takesHello(t, h)
	row.check(t, "HelloBytes")
}

// An empty list and nil are the same.
func TestP1HellosOfEmptyLists(t *testing.T) {
	want, _ := helloBytesAsked(leastServer())
	h := leastServer()
	h.Versions, h.Params.Origin, h.Params.Token, h.Params.First = []int{}, []byte{}, []byte{}, []byte{}
	checkHello(t, h, want, impl.OK)
	want, _ = helloBytesAsked(leastClient())
	h = leastClient()
	h.Params.Origin, h.Params.Token, h.Params.First = []byte{}, []byte{}, []byte{}
	checkHello(t, h, want, impl.OK)
}
