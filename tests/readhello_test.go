package tests

import (
	"fmt"
	"slices"
	"testing"

	"loop.example/g00012/impl"
)

// followsAsked reads what follows the count of a hello's bytes.
func followsAsked(kind int, follows []byte) (impl.Hello, bool) {
	r := askedReader{b: follows}
	h := impl.Hello{Kind: kind, Random: r.bytes(16)}
	number := func(n int) int {
		v := 0
		for _, c := range r.bytes(n) {
			v = v*256 + int(c)
		}
		return v
	}
	if kind == 1 {
		for range number(1) {
			h.Versions = append(h.Versions, number(4))
		}
	} else {
		h.Version = number(4)
	}
	for range number(1) {
		h.Names = append(h.Names, string(r.bytes(r.variable())))
	}
	if r.short {
		return impl.Hello{}, false
	}
	params, code := readParamsAsked(follows[r.at:], kind == 2)
	h.Params = params
	return h, code == impl.OK && helloOKAsked(h)
}

func readHelloAsked(b []byte) (impl.Hello, int, int) {
	switch {
	case len(b) > 65536:
		return impl.Hello{}, 0, impl.ErrLong
	case len(b) > 0 && b[0] != 1 && b[0] != 2:
		return impl.Hello{}, 0, impl.ErrForm
	case len(b) < 3:
		return impl.Hello{}, 0, impl.ErrShort
	}
	takes := 3 + 256*int(b[1]) + int(b[2])
	if len(b) < takes {
		return impl.Hello{}, 0, impl.ErrShort
	}
	h, ok := followsAsked(int(b[0]), b[3:takes])
	if !ok {
		return impl.Hello{}, 0, impl.ErrForm
	}
	return h, takes, impl.OK
}

func checkReadHello(t *testing.T, b []byte, want impl.Hello, takes, code int) {
	t.Helper()
	got, gotTakes, gotCode := impl.ReadHello(b)
	if gotCode != code || gotTakes != takes || !sameHello(got, want) {
		t.Errorf("ReadHello(%d bytes %x) = %s, %d %d, want %s, %d %d", len(b), b[:min(len(b), 200)], toldHello(got), gotTakes, gotCode, toldHello(want), takes, code)
	}
}

func checkReadHelloAsked(t *testing.T, b []byte) int {
	t.Helper()
	want, takes, code := readHelloAsked(b)
	checkReadHello(t, b, want, takes, code)
	return code
}

func refusesHelloBytes(t *testing.T, b []byte, code int) {
	t.Helper()
	checkReadHello(t, b, impl.Hello{}, 0, code)
	checkReadHelloAsked(t, b)
}

func takesHelloBytes(t *testing.T, b []byte, want impl.Hello) {
	t.Helper()
	checkReadHello(t, b, want, len(b), impl.OK)
	checkReadHello(t, join(b, zeroes(5)), want, len(b), impl.OK)
	checkReadHelloAsked(t, b)
}

func TestReadHelloKinds(t *testing.T) {
	for _, h := range plainHellos() {
		b, _ := helloBytesAsked(h)
		for first := range 256 {
			b := slices.Clone(b)
			b[0] = byte(first)
			switch first {
			case h.Kind:
				takesHelloBytes(t, b, h)
			case 3 - h.Kind:
				// By chance it may be one: of a client with one version and one name of one byte it is.
				checkReadHelloAsked(t, b)
			default:
				// Also where the bytes end too early.
				for _, n := range []int{1, 2, 3, 4, len(b) - 1, len(b)} {
					refusesHelloBytes(t, b[:n], impl.ErrForm)
				}
			}
		}
	}
	for _, h := range []impl.Hello{clientHello(), serverHello(), mostClient(), mostServer()} {
		b, _ := helloBytesAsked(h)
		b[0] = byte(3 - h.Kind)
		refusesHelloBytes(t, b, impl.ErrForm)
	}
	refusesHelloBytes(t, nil, impl.ErrShort)
	refusesHelloBytes(t, []byte{}, impl.ErrShort)
}

func TestReadHelloCut(t *testing.T) {
	for _, h := range plainHellos() {
		b, _ := helloBytesAsked(h)
		for n := range b {
			refusesHelloBytes(t, b[:n], impl.ErrShort)
		}
		takesHelloBytes(t, b, h)
	}
}

// It ends too early ahead of all that is wrong in it.
func TestReadHelloShortAndWrong(t *testing.T) {
	for _, h := range plainHellos() {
		parts := helloParts(h)
		for i := range parts {
			wrong := slices.Clone(parts)
			wrong[i] = slices.Repeat([]byte{255}, len(parts[i]))
			b := helloAround(h.Kind, wrong...)
			for n := 1; n < len(b); n++ {
				refusesHelloBytes(t, b[:n], impl.ErrShort)
			}
		}
	}
	for _, kind := range []byte{1, 2} {
		refusesHelloBytes(t, []byte{kind}, impl.ErrShort)
		refusesHelloBytes(t, []byte{kind, 0}, impl.ErrShort)
		refusesHelloBytes(t, []byte{kind, 255}, impl.ErrShort)
		refusesHelloBytes(t, []byte{kind, 0, 1}, impl.ErrShort)
		refusesHelloBytes(t, []byte{kind, 0, 0}, impl.ErrForm)
		refusesHelloBytes(t, []byte{kind, 0, 0, 5, 5}, impl.ErrForm)
		refusesHelloBytes(t, []byte{kind, 1, 0, 9}, impl.ErrShort)
	}
}

func TestP5HellosAheadOfOtherBytes(t *testing.T) {
	for _, h := range plainHellos() {
		b, _ := helloBytesAsked(h)
		for _, behind := range [][]byte{{0}, {1}, {255}, {12, 0}, {6, 1, 9}, b, zeroes(500), zeroes(65536 - len(b))} {
			checkReadHello(t, join(b, behind), h, len(b), impl.OK)
			checkReadHelloAsked(t, join(b, behind))
		}
		refusesHelloBytes(t, join(b, zeroes(65537-len(b))), impl.ErrLong)
	}
}

// Several one behind the other are read one by one.
func TestP5HellosOneBehindTheOther(t *testing.T) {
	var row []byte
	for _, h := range plainHellos() {
		b, _ := impl.HelloBytes(h)
		row = join(row, b)
	}
	for _, want := range plainHellos() {
		got, n, code := impl.ReadHello(row)
		if code != impl.OK || !sameHello(got, want) {
			t.Fatalf("%s %d, want %s", toldHello(got), code, toldHello(want))
		}
		row = row[n:]
	}
	if len(row) != 0 {
		t.Errorf("%d bytes are left", len(row))
	}
}

// The count of bytes is another one than that of what follows.
func TestReadHelloCounts(t *testing.T) {
	for _, h := range plainHellos() {
		b, _ := helloBytesAsked(h)
		follows := len(b) - 3
		counted := func(count, behind int) []byte {
			return join([]byte{byte(h.Kind), byte(count / 256), byte(count % 256)}, b[3:], zeroes(behind))
		}
		refusesHelloBytes(t, counted(follows-1, 0), impl.ErrForm)
		refusesHelloBytes(t, counted(follows+1, 0), impl.ErrShort)
		// What stands behind is an entry without a length, then one of number 0.
		refusesHelloBytes(t, counted(follows+1, 1), impl.ErrForm)
		for count := range follows + 40 {
			checkReadHelloAsked(t, counted(count, 0))
			checkReadHelloAsked(t, counted(count, 50))
		}
		for _, count := range []int{255, 256, 257, 65532, 65533, 65534, 65535} {
			checkReadHelloAsked(t, counted(count, 0))
			checkReadHelloAsked(t, counted(count, 65533-follows))
		}
	}
}

// Of what is counted the parameters are to the end.
func TestReadHelloLong(t *testing.T) {
	for _, h := range plainHellos() {
		whole := join(helloParts(h)...)
		fill := func(count int) []byte {
			rest := count - len(whole) - 5
			return helloAround(h.Kind, whole, []byte{6}, longVar(rest, 4), zeroes(rest))
		}
		takesHelloBytes(t, fill(65400), h)
		most := fill(65533)
		checkReadHello(t, most, h, 65536, impl.OK)
		refusesHelloBytes(t, join(most, []byte{0}), impl.ErrLong)
		refusesHelloBytes(t, fill(65534), impl.ErrLong)
		refusesHelloBytes(t, fill(65534)[:65536], impl.ErrShort)
		refusesHelloBytes(t, fill(65535)[:65536], impl.ErrShort)
	}
	for _, b := range [][]byte{zeroes(65537), slices.Repeat([]byte{1}, 65537), slices.Repeat([]byte{255}, 100000)} {
		refusesHelloBytes(t, b, impl.ErrLong)
	}
	refusesHelloBytes(t, zeroes(65536), impl.ErrForm)
}

// namesInForms are the names with the numbers ahead of them in n bytes.
func namesInForms(names []string, n int) []byte {
	out := []byte{byte(len(names))}
	for _, name := range names {
		out = join(out, longVar(len(name), n), []byte(name))
	}
	return out
}

func TestP5HelloNamesInLongerForms(t *testing.T) {
	for _, h := range plainHellos() {
		parts := helloParts(h)
		for _, n := range []int{1, 2, 4, 8} {
			takesHelloBytes(t, helloAround(h.Kind, parts[0], parts[1], namesInForms(h.Names, n), parts[3]), h)
		}
		// A name is longer than all that follows.
		for _, count := range []int{17, 200, 65535, 1 << 31, 1 << 32, 1<<32 + 1, maxVar} {
			refusesHelloBytes(t, helloAround(h.Kind, parts[0], parts[1], []byte{1}, varBytes(count), []byte("abc"), parts[3]), impl.ErrForm)
		}
	}
	// How many there are stands in one byte, whatever a longer form would look like.
	h := clientHello()
	parts := helloParts(h)
	refusesHelloBytes(t, helloAround(1, parts[0], parts[1], []byte{64}, parts[2], parts[3]), impl.ErrForm)
	refusesHelloBytes(t, helloAround(1, parts[0], []byte{64}, parts[1], parts[2], parts[3]), impl.ErrForm)
	refusesHelloBytes(t, helloAround(1, parts[0], parts[1], []byte{64, 3}, parts[2][1:], parts[3]), impl.ErrForm)
}

// How many versions and names there are, changed to every number a byte has.
func TestReadHelloNumbersOfParts(t *testing.T) {
	for _, h := range plainHellos() {
		parts := helloParts(h)
		for count := range 256 {
			names := slices.Clone(parts[2])
			names[0] = byte(count)
			checkReadHelloAsked(t, helloAround(h.Kind, parts[0], parts[1], names, parts[3]))
			checkReadHelloAsked(t, helloAround(h.Kind, parts[0], parts[1], names, parts[3], zeroes(300)))
			versions := slices.Clone(parts[1])
			versions[0] = byte(count)
			checkReadHelloAsked(t, helloAround(h.Kind, parts[0], versions, parts[2], parts[3]))
		}
	}
}

// wrongContent are hellos that are not valid, though their bytes can be written.
func wrongContent() []impl.Hello {
	var list []impl.Hello
	for _, versions := range [][]int{nil, {0}, {1, 0}, {1, 1}, {5, 6, 5}, rising(9, 1, 1), rising(255, 1, 1)} {
		h := clientHello()
		h.Versions = versions
		list = append(list, h)
	}
	for _, names := range [][]string{nil, {""}, {"a", ""}, {"a", "a"}, {"a", "b", "a"}, {"a", "b", "c", "d", "e"}, {"seventeen bytes m"}} {
		c, s := clientHello(), serverHello()
		c.Names, s.Names = names, names
		list = append(list, c, s)
	}
	version, two := serverHello(), serverHello()
	version.Version, two.Names = 0, []string{"a", "b"}
	return append(list, version, two)
}

func TestReadHelloOfWrongContent(t *testing.T) {
	for _, h := range wrongContent() {
		refusesHello(t, h)
		refusesHelloBytes(t, helloAround(h.Kind, helloParts(h)...), impl.ErrForm)
	}
}

func TestP5HelloParamsInAnyOrder(t *testing.T) {
	more := numbers(126)
	for _, h := range plainHellos() {
		parts, entries := helloParts(h), entriesAsked(h.Params, h.Kind == 2)
		for range 100 {
			shuffle(&more, entries)
			takesHelloBytes(t, helloAround(h.Kind, parts[0], parts[1], parts[2], join(entries...)), h)
			with := slices.Insert(slices.Clone(entries), more.below(len(entries)+1), entryOf(otherNumbers()[more.below(60)], more.bytes(more.below(9))))
			takesHelloBytes(t, helloAround(h.Kind, parts[0], parts[1], parts[2], join(with...)), h)
		}
		// None at all.
		want := h
		want.Params = missingAsked()
		takesHelloBytes(t, helloAround(h.Kind, parts[0], parts[1], parts[2]), want)
	}
}

func TestReadHelloParamsWithAFault(t *testing.T) {
	atOnce, atLast := wrongEntries()
	for _, h := range plainHellos() {
		parts := helloParts(h)
		for _, fault := range append(append(atOnce, atLast...), []byte{11}, []byte{11, 1}, []byte{64}, []byte{6, 9, 9}) {
			refusesHelloBytes(t, helloAround(h.Kind, parts[0], parts[1], parts[2], fault), impl.ErrForm)
			refusesHelloBytes(t, helloAround(h.Kind, parts[0], parts[1], parts[2], []byte{6, 1, 9}, fault), impl.ErrForm)
		}
		for _, entry := range entriesAsked(h.Params, h.Kind == 2) {
			refusesHelloBytes(t, helloAround(h.Kind, parts[0], parts[1], parts[2], parts[3], entry), impl.ErrForm)
		}
	}
	parts := helloParts(clientHello())
	for _, entries := range [][]byte{{0, 1, 9}, entryOf(2, zeroes(8)), join(entriesAsked(serverParams(), true)...)} {
		refusesHelloBytes(t, helloAround(1, parts[0], parts[1], parts[2], entries), impl.ErrForm)
	}
	want := clientHello()
	want.Params = missingAsked()
	takesHelloBytes(t, helloAround(1, parts[0], parts[1], parts[2], []byte{0, 0}), want)
}

// Every bit of a hello's bytes turned.
func TestReadHelloSpoilt(t *testing.T) {
	met := map[int]int{}
	for _, h := range plainHellos() {
		b, _ := helloBytesAsked(h)
		for at := range b {
			for bit := range 8 {
				spoilt := slices.Clone(b)
				spoilt[at] ^= 1 << bit
				met[checkReadHelloAsked(t, spoilt)]++
				checkReadHelloAsked(t, join(spoilt, zeroes(300)))
			}
			checkReadHelloAsked(t, slices.Delete(slices.Clone(b), at, at+1))
			checkReadHelloAsked(t, slices.Insert(slices.Clone(b), at, 1))
		}
	}
	for _, code := range []int{impl.OK, impl.ErrShort, impl.ErrForm} {
		if met[code] < 50 {
			t.Errorf("code %d was met %d times", code, met[code])
		}
	}
}

// drawnFollows is what follows in a drawn hello, its parts spoilt now and then.
func drawnFollows(more *numbers, h impl.Hello) []byte {
	h.Params = leastParams()
	parts := helloParts(h)
	parts[3] = drawnEntries(more, h.Kind == 2)
	if more.below(4) == 0 {
		part := more.below(4)
		parts[part] = slices.Clone(parts[part])
		if len(parts[part]) > 0 {
			parts[part][more.below(len(parts[part]))] = byte(more.next())
		}
	}
	if more.below(8) == 0 {
		parts[2] = namesInForms(h.Names, []int{2, 4, 8}[more.below(3)])
	}
	return join(parts...)
}

func TestP5ReadHelloDrawn(t *testing.T) {
	more := numbers(127)
	met := map[int]int{}
	for range 10000 {
		h := drawnClient(&more)
		if more.below(2) == 0 {
			h = drawnServer(&more)
		}
		b := helloAround(h.Kind, drawnFollows(&more, h))
		if more.below(4) == 0 {
			b = b[:more.below(len(b))]
		}
		met[checkReadHelloAsked(t, join(b, more.bytes(more.below(5))))]++
	}
	for _, code := range []int{impl.OK, impl.ErrShort, impl.ErrForm} {
		if met[code] < 1000 {
			t.Errorf("code %d was met %d times", code, met[code])
		}
	}
}

func TestP1ReadHelloOfAnyBytes(t *testing.T) {
	more := numbers(128)
	for a := range 256 {
		for b := range 256 {
			mustEnd(t, "ReadHello", func() {
				checkReadHelloAsked(t, []byte{byte(a), byte(b)})
				checkReadHelloAsked(t, []byte{byte(1 + a%2), 0, byte(b), byte(a)})
			})
		}
	}
	for range 5000 {
		b := more.bytes(3 + more.below(90))
		b[0], b[1], b[2] = byte(1+b[0]%2), 0, byte(more.below(len(b)))
		mustEnd(t, "ReadHello", func() { checkReadHelloAsked(t, b) })
	}
}

// What stands behind the end of b is not of b.
func TestP1NoHelloBehindTheEndIsRead(t *testing.T) {
	b, _ := helloBytesAsked(clientHello())
	whole := join(b, zeroes(20))
	for n := range b {
		refusesHelloBytes(t, whole[:n], impl.ErrShort)
	}
	checkReadHello(t, whole[:len(b)], clientHello(), len(b), impl.OK)
}

// spoilAll writes over a list and over the room behind its end.
func spoilAll[T any](list []T, mark T) {
	whole := list[:cap(list)]
	for i := range whole {
		whole[i] = mark
	}
}

func TestP1ReadHelloMemory(t *testing.T) {
	for _, h := range append(plainHellos(), wrongContent()...) {
		b := amid(helloAround(h.Kind, helloParts(h)...), 12)
		unchanged := func() {
			t.Helper()
			b.check(t, "ReadHello")
		}
		checkFresh(t, "ReadHello", func() [][]byte {
			got, _, _ := impl.ReadHello(b.list)
			return [][]byte{got.Random, got.Params.Origin, got.Params.Token, got.Params.First}
		}, unchanged)
		got, takes, code := impl.ReadHello(b.list)
		want, wantTakes, wantCode := readHelloAsked(b.list)
		spoilAll(got.Versions, 99)
		got.Versions = want.Versions
		spoilAll(got.Names, "spoilt")
		got.Names = want.Names
		if !sameHello(got, want) || takes != wantTakes || code != wantCode {
			t.Errorf("a list of %s shares memory with its versions or names", toldHello(got))
		}
		unchanged()
		checkReadHelloAsked(t, b.list)
	}
}

// A name that was read stays what it is when the bytes it was read of are written over.
func TestP1NamesAreNewMemory(t *testing.T) {
	for _, want := range plainHellos() {
		b, _ := impl.HelloBytes(want)
		got, _, _ := impl.ReadHello(b)
		spoil(b)
		if !sameHello(got, want) {
			t.Errorf("%s hangs on the bytes it was read of", toldHello(got))
		}
	}
}

func TestP1HellosKeepNothing(t *testing.T) {
	checkKeepsNothing(t, func() string {
		told := ""
		for _, h := range append(plainHellos(), wrongHellos()...) {
			b, code := impl.HelloBytes(h)
			read, takes, readCode := impl.ReadHello(b)
			told += fmt.Sprintln(b, code, read, takes, readCode)
		}
		return told
	})
}
