package tests

import (
	"bytes"
	"fmt"
	"math"
	"reflect"
	"slices"
	"strings"
	"testing"

	"loop.example/g00012/impl"
)

// chooseAsked goes by the chapter's words.
func chooseAsked(mine, theirs []int) int {
	if len(mine) > 4096 || len(theirs) > 4096 {
		return 0
	}
	if at := slices.IndexFunc(mine, func(v int) bool { return slices.Contains(theirs, v) }); at >= 0 {
		return mine[at]
	}
	return 0
}

func checkChoose(t *testing.T, mine, theirs []int, want int) {
	t.Helper()
	for _, asked := range []int{want, chooseAsked(mine, theirs)} {
		if got := impl.ChooseVersion(mine, theirs); got != asked {
			t.Errorf("ChooseVersion of %d, %v.. and %d, %v.. = %d, want %d", len(mine), mine[:min(9, len(mine))], len(theirs), theirs[:min(9, len(theirs))], got, asked)
		}
	}
}

func TestChooseVersion(t *testing.T) {
	for _, c := range []struct {
		mine, theirs []int
		want         int
	}{
		{[]int{3, 2, 1}, []int{1, 2}, 2},
		{[]int{1, 2, 3}, []int{3, 2, 1}, 1},
		{[]int{3, 2, 1}, []int{1, 2, 3}, 3},
		{[]int{9, 8, 1}, []int{5, 1, 7}, 1},
		{[]int{4294967295, 1}, []int{1, 4294967295}, 4294967295},
		{[]int{1}, []int{1}, 1},
		{[]int{1}, []int{2}, 0},
		{[]int{3}, nil, 0},
		{nil, []int{3}, 0},
		{nil, nil, 0},
		{[]int{}, []int{}, 0},
		{[]int{7, 7}, []int{7}, 7},
		{[]int{5, 7}, []int{7, 7}, 7},
		// They need not be versions of a hello.
		{[]int{0, 5}, []int{5, 0}, 0},
		{[]int{-1, 5}, []int{5, -1}, -1},
		{[]int{math.MinInt}, []int{math.MaxInt, math.MinInt}, math.MinInt},
		{[]int{math.MaxInt, 1}, []int{1}, 1},
		{[]int{4294967297}, []int{1}, 0},
		{rising(9, 1, 1), rising(10, 5, 1), 5},
	} {
		checkChoose(t, c.mine, c.theirs, c.want)
	}
}

func TestChooseVersionOfLongLists(t *testing.T) {
	for _, count := range []int{4095, 4096, 4097, 5000, 70000} {
		long, want := rising(count, 1, 1), 0
		if count <= 4096 {
			want = count
		}
		checkChoose(t, long, []int{count}, want)
		checkChoose(t, []int{count}, long, want)
		checkChoose(t, []int{count, 1}, long, want)
		checkChoose(t, long, []int{-5}, 0)
		checkChoose(t, nil, long, 0)
	}
	checkChoose(t, rising(4096, 1, 1), rising(4096, 4096, 1), 4096)
	checkChoose(t, rising(4097, 1, 1), rising(4097, 1, 1), 0)
}

func TestChooseVersionDrawn(t *testing.T) {
	more := numbers(130)
	row := func() []int {
		var list []int
		for range more.below(9) {
			list = append(list, near(&more, 3, 7, 4294967295))
		}
		return list
	}
	for range 5000 {
		mine, theirs := row(), row()
		checkChoose(t, mine, theirs, chooseAsked(mine, theirs))
	}
}

func TestP1ChooseVersionWritesNothing(t *testing.T) {
	for _, lists := range [][2][]int{{{3, 2, 1}, {1, 2}}, {nil, {1}}, {{5}, {6, 7}}, {rising(4096, 1, 1), rising(4097, 1, 1)}} {
		mine, theirs := amid(lists[0], 1), amid(lists[1], 3)
		checkChoose(t, mine.list, theirs.list, chooseAsked(lists[0], lists[1]))
		mine.check(t, "ChooseVersion")
		theirs.check(t, "ChooseVersion")
	}
	whole := []int{1, 2, 3, 4}
	checkChoose(t, whole[:2], whole[1:3], 2)
	checkChoose(t, whole[:1], whole[1:], 0)
}

// initialAsked is zero where the chapter says so.
func initialAsked(version int, cid []byte) (impl.Keys, impl.Keys) {
	if !versionOK(version) || len(cid) > 8 {
		return impl.Keys{}, impl.Keys{}
	}
	base := digestAsked(join([]byte("initial"), fourBytes(uint64(version))), cid)
	return keysAsked(deriveAsked(base, "c in", 16)), keysAsked(deriveAsked(base, "s in", 16))
}

func checkInitial(t *testing.T, version int, cid []byte, client, server impl.Keys) {
	t.Helper()
	gotClient, gotServer := impl.InitialKeys(version, cid)
	checkKeys(t, fmt.Sprintf("the client's InitialKeys(%d, %x)", version, cid), gotClient, client)
	checkKeys(t, fmt.Sprintf("the server's InitialKeys(%d, %x)", version, cid), gotServer, server)
}

func checkInitialAsked(t *testing.T, version int, cid []byte) {
	t.Helper()
	client, server := initialAsked(version, cid)
	checkInitial(t, version, cid, client, server)
}

func keysOfHex(t *testing.T, secret, key, iv, mask string) impl.Keys {
	return impl.Keys{Secret: unhex(t, secret), Key: unhex(t, key), Iv: unhex(t, iv), Mask: unhex(t, mask)}
}

// The keys were worked out by a second program.
func TestInitialKeysWorkedOutElsewhere(t *testing.T) {
	for _, c := range []struct {
		version        int
		cid            []byte
		client, server impl.Keys
	}{
		{1, nil,
			keysOfHex(t, "b42f0d8cd1fb6fa8b92c71e47458e46e", "166ca0a9a2db2cce4e3bb4eb33ed6318", "8d761a8bed963703", "f807613af430b4332da262a321cfbbcd"),
			keysOfHex(t, "855822c37f03773084a14c33f596e152", "002179c05a120d375baa733c69b1cd76", "7893b1ce7a67b426", "27e04fa0a4c58f685e9cff5bd0e26303")},
		{4294967295, rowOf(8, 1, 256),
			keysOfHex(t, "b23b70aefc104f06be087d74f68560ac", "c9c0708281ed04d6b6be30f8ec084425", "18a0c1a2253217fe", "adb23900e33447eddd5510e117c10246"),
			keysOfHex(t, "6933f8b388f8a9fb1d62c02b84574303", "539272fecb1461e15db6abb09615d9ed", "b96a482d1258a116", "8af89385feda7ca4e79ae3c0d328e2ee")},
		{16909060, []byte("first id"),
			keysOfHex(t, "f326920f6fcd8161557b7a327d40d496", "45ece440470cea3c23d7216946467082", "fce0cd40b9074633", "96c6aeebd712fafa5f19bdb9723bad85"),
			keysOfHex(t, "7eae248e94943ee1bf3b0062fad975ad", "e1b80ff9512ac8eb1100a926ce9d2858", "e4388685b8088e2d", "b401a92d50f29f2d239fc62af6b649ba")},
	} {
		checkInitial(t, c.version, c.cid, c.client, c.server)
		checkInitialAsked(t, c.version, c.cid)
	}
}

func TestInitialKeysEdges(t *testing.T) {
	for _, version := range []int{1, 2, 255, 256, 65536, 1 << 31, 4294967294, 4294967295} {
		for n := range 9 {
			checkInitialAsked(t, version, rowOf(n, 3, 256))
		}
		for _, n := range []int{9, 10, 16, 256, 264, 65536, 65537} {
			checkInitial(t, version, rowOf(n, 3, 256), impl.Keys{}, impl.Keys{})
		}
	}
	for _, version := range []int{0, -1, 4294967296, 4294967297, maxVar, math.MinInt, math.MaxInt} {
		for _, n := range []int{0, 1, 8, 9} {
			checkInitial(t, version, rowOf(n, 3, 256), impl.Keys{}, impl.Keys{})
		}
	}
}

// Another version, another id and the other side have other keys.
func TestP15InitialKeysAreUnlike(t *testing.T) {
	seen := map[string]string{}
	for _, version := range []int{1, 2, 256, 0x01000000, 4294967295} {
		for _, cid := range [][]byte{nil, {0}, {1}, {0, 0}, zeroes(7), zeroes(8), {1, 0, 0, 0, 0, 0, 0, 0}, rowOf(8, 1, 256)} {
			client, server := impl.InitialKeys(version, cid)
			for side, k := range []impl.Keys{client, server} {
				told := fmt.Sprintf("version %d, id %x, side %d", version, cid, side)
				if other, ok := seen[string(k.Secret)]; ok {
					t.Errorf("%s has the secret of %s", told, other)
				}
				seen[string(k.Secret)] = told
			}
		}
	}
}

// carries tells whether what is sealed with one's keys opens with the other's.
func carries(sealing, opening impl.Keys) bool {
	h := impl.Header{Form: impl.FormHandshake, Version: 1, Dst: []byte("dst"), Src: []byte("src"), Num: 5, NumLen: 2}
	packet, code := impl.ProtectPacket(sealing, h, []byte("a body"))
	if code != impl.OK {
		return false
	}
	_, body, code := impl.OpenPacket(opening, packet, 3, 4)
	return code == impl.OK && string(body) == "a body"
}

func TestP15InitialKeysSealAndOpen(t *testing.T) {
	for _, cid := range [][]byte{nil, {7}, []byte("first id")} {
		client, server := impl.InitialKeys(1, cid)
		clientAgain, serverAgain := impl.InitialKeys(1, slices.Clone(cid))
		if !carries(client, clientAgain) || !carries(server, serverAgain) {
			t.Errorf("with the id %x what one end seals the other doesn't open", cid)
		}
		other, _ := impl.InitialKeys(2, cid)
		if carries(client, serverAgain) || carries(server, clientAgain) || carries(client, other) {
			t.Errorf("with the id %x other keys open it", cid)
		}
	}
}

func TestP1InitialKeysMemory(t *testing.T) {
	for _, n := range []int{0, 3, 8, 9} {
		cid := amid(rowOf(n, 5, 256), 0xee)
		checkFresh(t, "InitialKeys", func() [][]byte {
			client, server := impl.InitialKeys(7, cid.list)
			return append(listsOf(client), listsOf(server)...)
		}, func() { cid.check(t, "InitialKeys") })
		checkInitialAsked(t, 7, cid.list)
	}
	for _, v := range oddInts() {
		mustEnd(t, fmt.Sprintf("InitialKeys of version %d", v), func() { checkInitialAsked(t, v, []byte("cid")) })
	}
	checkInitialAsked(t, 1, []byte{})
}

func agreeAsked(shared []byte, c, s impl.Hello) (impl.Agreement, int) {
	if len(shared) != 16 || c.Kind != 1 || s.Kind != 2 || !helloOKAsked(c) || !helloOKAsked(s) {
		return impl.Agreement{}, impl.ErrBad
	}
	if !slices.Contains(c.Versions, s.Version) || !slices.Contains(c.Names, s.Names[0]) {
		return impl.Agreement{}, impl.ErrVersion
	}
	client, _ := helloBytesAsked(c)
	server, _ := helloBytesAsked(s)
	root := digestAsked(shared, join(client, server))
	return impl.Agreement{
		Version: s.Version, Name: s.Names[0],
		Client1: deriveAsked(root, "c hs", 16), Server1: deriveAsked(root, "s hs", 16),
		Client2: deriveAsked(root, "c ap", 16), Server2: deriveAsked(root, "s ap", 16),
		Check: deriveAsked(root, "check", 8),
	}, impl.OK
}

func agreementLists(a impl.Agreement) [][]byte {
	return [][]byte{a.Client1, a.Server1, a.Client2, a.Server2, a.Check}
}

func sameAgreement(a, b impl.Agreement) bool {
	return a.Version == b.Version && a.Name == b.Name && slices.EqualFunc(agreementLists(a), agreementLists(b), bytes.Equal)
}

func checkAgree(t *testing.T, shared []byte, c, s impl.Hello, want impl.Agreement, code int) {
	t.Helper()
	got, gotCode := impl.Agree(shared, c, s)
	if gotCode != code || !sameAgreement(got, want) {
		t.Errorf("Agree(%x, %s, %s) = %+v %d, want %+v %d", shared[:min(20, len(shared))], toldHello(c), toldHello(s), got, gotCode, want, code)
	}
}

func checkAgreeAsked(t *testing.T, shared []byte, c, s impl.Hello) int {
	t.Helper()
	want, code := agreeAsked(shared, c, s)
	checkAgree(t, shared, c, s, want, code)
	return code
}

func refusesAgree(t *testing.T, shared []byte, c, s impl.Hello, code int) {
	t.Helper()
	checkAgree(t, shared, c, s, impl.Agreement{}, code)
	checkAgreeAsked(t, shared, c, s)
}

// agreed is what a call agrees on.
func agreed(t *testing.T, shared []byte, c, s impl.Hello) impl.Agreement {
	t.Helper()
	a, code := impl.Agree(shared, c, s)
	if code != impl.OK {
		t.Errorf("Agree(%x, %s, %s) has the code %d", shared, toldHello(c), toldHello(s), code)
	}
	return a
}

// meeting is what two ends need to agree.
type meeting struct {
	shared []byte
	c, s   impl.Hello
}

func plainMeetings() []meeting {
	return []meeting{
		{countedSecret(), clientHello(), serverHello()},
		{zeroes(16), leastClient(), leastServer()},
		{bytes.Repeat([]byte{255}, 16), mostClient(), mostServer()},
	}
}

// The secrets were worked out by a second program.
func TestP15AgreementsWorkedOutElsewhere(t *testing.T) {
	for i, c := range [][5]string{
		{"9bf2eb4cf5b11dc96e56e7820a29181d", "7404bbe180f79fbb5089cda6714e43ec", "cab1c32eb0f50af79012c94f7bcf44b5", "c66a00e35065fcd8b69afec43b95bb4c", "551a0b51b065dbd6"},
		{"9ddcbe11b5f511a5572ed867d1024b93", "11f4f0a939d14108569fa396b2d23f91", "aec464298c8e288c1759b06ed5a5b39d", "deb23578735ea488a174a82085cda0f7", "39a1167accfee9b8"},
		{"c97c3909c55330eba91b64340a0aa01f", "9c8733ce8815a22d0f48b3b575a933a1", "9d06eda0b881ccc6d1a6a26e5bc59b4c", "f7072b25ae32ae027d92c8ca66f60831", "de2a4a3bada8ab5b"},
	} {
		m := plainMeetings()[i]
		want := impl.Agreement{Version: m.s.Version, Name: m.s.Names[0], Client1: unhex(t, c[0]), Server1: unhex(t, c[1]), Client2: unhex(t, c[2]), Server2: unhex(t, c[3]), Check: unhex(t, c[4])}
		checkAgree(t, m.shared, m.c, m.s, want, impl.OK)
		checkAgreeAsked(t, m.shared, m.c, m.s)
	}
}

func TestAgreeRefuses(t *testing.T) {
	for _, m := range plainMeetings() {
		for _, n := range []int{0, 1, 8, 15, 17, 24, 32, 272, 65536, 65537} {
			refusesAgree(t, rowOf(n, 1, 256), m.c, m.s, impl.ErrBad)
		}
		refusesAgree(t, nil, m.c, m.s, impl.ErrBad)
		refusesAgree(t, m.shared, m.s, m.c, impl.ErrBad)
		refusesAgree(t, m.shared, m.c, m.c, impl.ErrBad)
		refusesAgree(t, m.shared, m.s, m.s, impl.ErrBad)
		refusesAgree(t, m.shared, impl.Hello{}, m.s, impl.ErrBad)
		refusesAgree(t, m.shared, m.c, impl.Hello{}, impl.ErrBad)
		refusesAgree(t, nil, impl.Hello{}, impl.Hello{}, impl.ErrBad)
		for _, wrong := range append(wrongHellos(), wrongContent()...) {
			refusesAgree(t, m.shared, wrong, m.s, impl.ErrBad)
			refusesAgree(t, m.shared, m.c, wrong, impl.ErrBad)
			refusesAgree(t, m.shared, wrong, wrong, impl.ErrBad)
			refusesAgree(t, nil, wrong, m.s, impl.ErrBad)
		}
	}
}

func TestAgreeWithoutAVersionOrName(t *testing.T) {
	for _, m := range plainMeetings() {
		version, name, both := m.s, m.s, m.s
		version.Version = 77
		name.Names = []string{"another"}
		both.Version, both.Names = 77, []string{"another"}
		for _, s := range []impl.Hello{version, name, both} {
			refusesAgree(t, m.shared, m.c, s, impl.ErrVersion)
			// It is ahead of that that something isn't valid.
			refusesAgree(t, m.shared[:15], m.c, s, impl.ErrBad)
			refusesAgree(t, m.shared, s, m.c, impl.ErrBad)
			s.Params.Ids = 99
			refusesAgree(t, m.shared, m.c, s, impl.ErrBad)
			c := m.c
			c.Versions = append(slices.Clone(c.Versions), c.Versions...)
			refusesAgree(t, m.shared, c, version, impl.ErrBad)
		}
	}
	for _, name := range []string{"H", "h ", "hh", "hyp", "hyper\x00", "yper", "sixteen bytes m", "\x00"} {
		s := serverHello()
		s.Names = []string{name}
		refusesAgree(t, countedSecret(), clientHello(), s, impl.ErrVersion)
	}
}

// Whichever of the client's versions and names the server takes.
func TestP15AgreedOnWhatBothHave(t *testing.T) {
	for _, m := range plainMeetings() {
		for _, version := range m.c.Versions {
			for _, name := range m.c.Names {
				s := m.s
				s.Version, s.Names = version, []string{name}
				a := agreed(t, m.shared, m.c, s)
				if a.Version != version || a.Name != name {
					t.Errorf("agreed on %d and %q, want %d and %q", a.Version, a.Name, version, name)
				}
				checkAgreeAsked(t, m.shared, m.c, s)
			}
		}
	}
}

// readAgain is the hello as the other end has it, the parameters of it in another order on the way.
func readAgain(t *testing.T, h impl.Hello, more *numbers) []impl.Hello {
	t.Helper()
	b, _ := impl.HelloBytes(h)
	parts, entries := helloParts(h), entriesAsked(h.Params, h.Kind == 2)
	shuffle(more, entries)
	var list []impl.Hello
	for _, row := range [][]byte{b, join(b, b), helloAround(h.Kind, parts[0], parts[1], namesInForms(h.Names, 4), join(entries...), entryOf(7, []byte("more")))} {
		got, _, code := impl.ReadHello(row)
		if code != impl.OK || !sameHello(got, h) {
			t.Errorf("%s was read as %s, code %d", toldHello(h), toldHello(got), code)
		}
		list = append(list, got)
	}
	return list
}

// drawnMeeting is one of two ends that have something in common.
func drawnMeeting(more *numbers) meeting {
	m := meeting{more.bytes(16), drawnClient(more), drawnServer(more)}
	m.s.Version, m.s.Names = m.c.Versions[more.below(len(m.c.Versions))], []string{m.c.Names[more.below(len(m.c.Names))]}
	return m
}

func TestP15BothEndsAgree(t *testing.T) {
	more := numbers(131)
	meetings := plainMeetings()
	for len(meetings) < 400 {
		if m := drawnMeeting(&more); helloOKAsked(m.c) && helloOKAsked(m.s) {
			meetings = append(meetings, m)
		}
	}
	for _, m := range meetings {
		want := agreed(t, m.shared, m.c, m.s)
		if !slices.Contains(m.c.Versions, want.Version) || want.Version != m.s.Version || !slices.Contains(m.c.Names, want.Name) || want.Name != m.s.Names[0] {
			t.Errorf("agreed on %d and %q, which not both have", want.Version, want.Name)
		}
		for _, c := range readAgain(t, m.c, &more) {
			for _, s := range readAgain(t, m.s, &more) {
				checkAgree(t, m.shared, c, m.s, want, impl.OK)
				checkAgree(t, m.shared, m.c, s, want, impl.OK)
				checkAgree(t, m.shared, c, s, want, impl.OK)
			}
		}
		checkAgreeAsked(t, m.shared, m.c, m.s)
	}
}

// checkUnlike tells whether no list of one agreement is one of the other's.
func checkUnlike(t *testing.T, what string, a, b impl.Agreement) {
	t.Helper()
	for i, list := range agreementLists(a) {
		for j, other := range agreementLists(b) {
			if len(list) == 0 || bytes.HasPrefix(list, other) || bytes.HasPrefix(other, list) {
				t.Errorf("%s: list %d is %x, list %d of the other %x", what, i, list, j, other)
			}
		}
	}
}

func TestP15AnotherSharedSecret(t *testing.T) {
	for _, m := range plainMeetings() {
		a := agreed(t, m.shared, m.c, m.s)
		for at := range m.shared {
			for bit := range 8 {
				other := slices.Clone(m.shared)
				other[at] ^= 1 << bit
				checkUnlike(t, "another shared secret", a, agreed(t, other, m.c, m.s))
			}
		}
	}
}

// otherHellos are valid ones that are unlike h in one thing each; what was agreed on stays.
func otherHellos(h impl.Hello) []impl.Hello {
	var list []impl.Hello
	add := func(change func(h *impl.Hello)) {
		other := h
		change(&other)
		if helloOKAsked(other) && !sameHello(other, h) {
			list = append(list, other)
		}
	}
	for at := range 16 {
		for bit := range 8 {
			add(func(h *impl.Hello) { h.Random = slices.Clone(h.Random); h.Random[at] ^= 1 << bit })
		}
	}
	for _, row := range paramRows {
		for _, v := range []int{row.least, row.most, row.least + 1, row.missing, *row.field(&h.Params) + 1, *row.field(&h.Params) - 1} {
			add(func(h *impl.Hello) { *row.field(&h.Params) = v })
		}
	}
	for _, field := range paramLists {
		for _, value := range [][]byte{nil, {0}, zeroes(2), zeroes(8), []byte("12345679"), join(*field.field(&h.Params), []byte{0})} {
			add(func(h *impl.Hello) { *field.field(&h.Params) = value })
		}
	}
	add(func(h *impl.Hello) { h.Params.NoMove = !h.Params.NoMove })
	for _, v := range []int{3, 4, 4294967294} {
		add(func(h *impl.Hello) { h.Versions = append(slices.Clone(h.Versions), v) })
		add(func(h *impl.Hello) { h.Versions = append([]int{v}, h.Versions...) })
	}
	add(func(h *impl.Hello) { h.Versions = slices.Clone(h.Versions); slices.Reverse(h.Versions) })
	for _, name := range []string{"b", "more"} {
		add(func(h *impl.Hello) { h.Names = append(slices.Clone(h.Names), name) })
		add(func(h *impl.Hello) { h.Names = append([]string{name}, h.Names...) })
	}
	add(func(h *impl.Hello) { h.Names = slices.Clone(h.Names); slices.Reverse(h.Names) })
	return list
}

func TestP15AnotherHello(t *testing.T) {
	for _, m := range plainMeetings() {
		a := agreed(t, m.shared, m.c, m.s)
		clients, servers := otherHellos(m.c), otherHellos(m.s)
		if min(len(clients), len(servers)) < 145 {
			t.Fatalf("%d other hellos of the client, %d of the server", len(clients), len(servers))
		}
		for _, c := range clients {
			checkUnlike(t, toldHello(c), a, agreed(t, m.shared, c, m.s))
		}
		for _, s := range servers {
			checkUnlike(t, toldHello(s), a, agreed(t, m.shared, m.c, s))
		}
	}
}

// Another version or name that both have is another hello too.
func TestP15AnotherChoice(t *testing.T) {
	for _, m := range plainMeetings() {
		a := agreed(t, m.shared, m.c, m.s)
		for _, version := range m.c.Versions {
			for _, name := range m.c.Names {
				s := m.s
				s.Version, s.Names = version, []string{name}
				if !sameHello(s, m.s) {
					checkUnlike(t, "another choice", a, agreed(t, m.shared, m.c, s))
				}
			}
		}
	}
}

// The five lists of one agreement are unlike each other.
func TestP15SecretsAreUnlike(t *testing.T) {
	for _, m := range plainMeetings() {
		lists := agreementLists(agreed(t, m.shared, m.c, m.s))
		for i, list := range lists {
			if len(list) != []int{16, 16, 16, 16, 8}[i] {
				t.Errorf("list %d has %d bytes", i, len(list))
			}
			for j, other := range lists {
				if i != j && (bytes.HasPrefix(list, other) || bytes.HasPrefix(other, list)) {
					t.Errorf("list %d is %x, list %d %x", i, list, j, other)
				}
			}
		}
	}
}

// What one end seals with the keys of a secret, the other end opens with those of its own; nobody else does.
func TestP15SecretsSealAndOpen(t *testing.T) {
	more := numbers(132)
	for _, m := range plainMeetings() {
		client := agreed(t, m.shared, m.c, readAgain(t, m.s, &more)[0])
		server := agreed(t, m.shared, readAgain(t, m.c, &more)[2], m.s)
		shared := slices.Clone(m.shared)
		shared[15] ^= 1
		stranger := agreed(t, shared, m.c, m.s)
		for i, mine := range agreementLists(client)[:4] {
			for j, theirs := range agreementLists(server)[:4] {
				if carries(impl.KeysOf(mine), impl.KeysOf(theirs)) != (i == j) {
					t.Errorf("secret %d of one end and %d of the other: it opens, or not, wrongly", i, j)
				}
				if carries(impl.KeysOf(mine), impl.KeysOf(agreementLists(stranger)[j])) {
					t.Errorf("secret %d opens with %d of a stranger", i, j)
				}
			}
		}
		if !bytes.Equal(client.Check, server.Check) || bytes.Equal(client.Check, stranger.Check) {
			t.Error("Check")
		}
	}
}

func TestP15AgreeDrawn(t *testing.T) {
	more := numbers(133)
	met := map[int]int{}
	for range 3000 {
		m := drawnMeeting(&more)
		switch more.below(8) {
		case 0:
			m.c = drawnHello(&more)
		case 1:
			m.s = drawnHello(&more)
		case 2:
			m.shared = more.bytes(near(&more, 16) & 31)
		case 3:
			m.s.Version = 1 + more.below(4294967295)
		}
		met[checkAgreeAsked(t, m.shared, m.c, m.s)]++
	}
	for _, code := range []int{impl.OK, impl.ErrBad, impl.ErrVersion} {
		if met[code] < 300 {
			t.Errorf("code %d was met %d times", code, met[code])
		}
	}
}

func TestP1AgreeTakesAnyIntegers(t *testing.T) {
	for _, v := range oddInts() {
		mustEnd(t, fmt.Sprintf("Agree with %d", v), func() {
			for _, change := range []func(h *impl.Hello){
				func(h *impl.Hello) { h.Kind = v },
				func(h *impl.Hello) { h.Version = v },
				func(h *impl.Hello) { h.Versions = []int{v} },
				func(h *impl.Hello) { h.Params.AckDelay = v },
			} {
				c, s := clientHello(), serverHello()
				change(&c)
				change(&s)
				checkAgreeAsked(t, countedSecret(), c, serverHello())
				checkAgreeAsked(t, countedSecret(), clientHello(), s)
				checkAgreeAsked(t, countedSecret(), c, s)
			}
		})
	}
}

func TestP1AgreeMemory(t *testing.T) {
	another, short := plainMeetings()[0], plainMeetings()[0]
	another.s.Version, short.shared = 9, short.shared[:15]
	for _, m := range append(plainMeetings(), another, short) {
		shared, c, s := amid(m.shared, 0xee), fenceHello(m.c), fenceHello(m.s)
		unchanged := func() {
			t.Helper()
			shared.check(t, "Agree")
			c.check(t, "Agree")
			s.check(t, "Agree")
		}
		checkFresh(t, "Agree", func() [][]byte {
			a, _ := impl.Agree(shared.list, c.h, s.h)
			return agreementLists(a)
		}, unchanged)
		checkAgreeAsked(t, shared.list, c.h, s.h)
		unchanged()
	}
}

// The arguments may lie in one memory.
func TestP1AgreeOfWhatLiesTogether(t *testing.T) {
	row, versions, names := amid(rowOf(60, 7, 256), 0xee), amid([]int{5, 6, 7}, 9), amid([]string{"a", "b", "c"}, "mark")
	c, s := clientHello(), serverHello()
	c.Random, c.Params.First, s.Random, s.Params.Origin, s.Params.Token = row.list[:16], row.list[8:16], row.list[4:20], row.list[:8], row.list[10:18]
	c.Versions, c.Names, s.Version, s.Names = versions.list[:2], names.list[:2], 6, names.list[1:2]
	if code := checkAgreeAsked(t, row.list[2:18], c, s); code != impl.OK {
		t.Errorf("code %d", code)
	}
	s.Names = names.list[2:]
	refusesAgree(t, row.list[2:18], c, s, impl.ErrVersion)
	row.check(t, "Agree")
	versions.check(t, "Agree")
	names.check(t, "Agree")
}

// The name stays what it is when the server's list of names is written over.
func TestP1AgreedNameStays(t *testing.T) {
	c, s := clientHello(), serverHello()
	s.Names = []string{strings.Clone("hyper")}
	a := agreed(t, countedSecret(), c, s)
	s.Names[0] = "other"
	if want, _ := agreeAsked(countedSecret(), c, impl.Hello{Kind: 2, Random: s.Random, Version: 1, Names: []string{"hyper"}, Params: s.Params}); !reflect.DeepEqual(a, want) {
		t.Errorf("%+v, want %+v", a, want)
	}
}

func TestP1AgreeKeepsNothing(t *testing.T) {
	checkKeepsNothing(t, func() string {
		told := ""
		for _, m := range plainMeetings() {
			a, code := impl.Agree(m.shared, m.c, m.s)
			_, refused := impl.Agree(nil, m.c, m.s)
			client, server := impl.InitialKeys(m.s.Version, m.shared[:8])
			told += fmt.Sprintln(a, code, refused, client, server, impl.ChooseVersion(m.c.Versions, []int{m.s.Version}))
		}
		return told
	})
}
