package tests

import (
	"fmt"
	"math"
	"slices"
	"testing"

	"loop.example/g00012/impl"
)

// missingAsked is what is told of what is missing.
func missingAsked() impl.Params {
	var p impl.Params
	for _, row := range paramRows {
		*row.field(&p) = row.missing
	}
	return p
}

// takeAsked tells whether the value may stand in an entry of this number.
func takeAsked(p *impl.Params, number int, value []byte) bool {
	for _, row := range paramRows {
		if row.number == number {
			v, next := variableAsked(value, 0)
			*row.field(p) = v
			return len(value) > 0 && next == len(value)
		}
	}
	for _, list := range paramLists {
		if list.number == number {
			*list.field(p) = value
			return number != 2 || len(value) > 0
		}
	}
	p.NoMove = true
	return len(value) == 0
}

// readParamsAsked goes from entry to entry; of one entry that it ends too early is ahead of all else.
func readParamsAsked(b []byte, server bool) (impl.Params, int) {
	if len(b) > 65536 {
		return impl.Params{}, impl.ErrLong
	}
	p, came := missingAsked(), map[int]bool{}
	for r := (askedReader{b: b}); r.at < len(b); {
		number := r.variable()
		value := r.bytes(r.variable())
		if r.short {
			return impl.Params{}, impl.ErrShort
		}
		if !slices.Contains(paramNumbers, number) {
			continue
		}
		if came[number] || !takeAsked(&p, number, value) {
			return impl.Params{}, impl.ErrParam
		}
		came[number] = true
	}
	if !paramsOKAsked(p, server) {
		return impl.Params{}, impl.ErrParam
	}
	return p, impl.OK
}

func checkReadParams(t *testing.T, b []byte, server bool, want impl.Params, code int) {
	t.Helper()
	got, gotCode := impl.ReadParams(b, server)
	if gotCode != code || !sameParams(got, want) {
		t.Errorf("ReadParams(%d bytes %x, %v) = %+v %d, want %+v %d", len(b), b[:min(len(b), 120)], server, got, gotCode, want, code)
	}
}

func checkReadParamsAsked(t *testing.T, b []byte, server bool) int {
	t.Helper()
	want, code := readParamsAsked(b, server)
	checkReadParams(t, b, server, want, code)
	return code
}

func refusesEntries(t *testing.T, b []byte, server bool, code int) {
	t.Helper()
	checkReadParams(t, b, server, impl.Params{}, code)
	checkReadParamsAsked(t, b, server)
}

// takesEntries tells whether what is read is missingAsked, changed.
func takesEntries(t *testing.T, b []byte, server bool, change func(p *impl.Params)) {
	t.Helper()
	want := missingAsked()
	change(&want)
	checkReadParams(t, b, server, want, impl.OK)
	checkReadParamsAsked(t, b, server)
}

func noChange(*impl.Params) {}

func TestReadParamsOfNoEntry(t *testing.T) {
	want := impl.Params{Size: 2000, ConnWindow: 4096, StreamWindow: 1024, TwoWay: 4, OneWay: 4, AckDelay: 25000, Ids: 2}
	eachSide(func(server bool) {
		checkReadParams(t, nil, server, want, impl.OK)
		checkReadParams(t, []byte{}, server, want, impl.OK)
		takesEntries(t, nil, server, noChange)
	})
}

// entrySets are the entries of some parameters, and who tells them.
func entrySets() []struct {
	p      impl.Params
	server bool
} {
	return []struct {
		p      impl.Params
		server bool
	}{{leastParams(), false}, {leastParams(), true}, {mostParams(), false}, {mostServerParams(), true}, {clientParams(), false}, {serverParams(), true}}
}

func TestP5EntriesInAnyOrder(t *testing.T) {
	more := numbers(121)
	for _, set := range entrySets() {
		entries := entriesAsked(set.p, set.server)
		reversed := slices.Clone(entries)
		slices.Reverse(reversed)
		checkReadParams(t, join(reversed...), set.server, set.p, impl.OK)
		for i := range entries {
			turned := join(join(entries[i:]...), join(entries[:i]...))
			checkReadParams(t, turned, set.server, set.p, impl.OK)
			for j := range i {
				swapped := slices.Clone(entries)
				swapped[i], swapped[j] = swapped[j], swapped[i]
				checkReadParams(t, join(swapped...), set.server, set.p, impl.OK)
			}
		}
		for range 200 {
			shuffle(&more, entries)
			checkReadParams(t, join(entries...), set.server, set.p, impl.OK)
			checkReadParamsAsked(t, join(entries...), set.server)
		}
	}
}

// otherNumbers are those that the table has not, of all widths.
func otherNumbers() []int {
	list := []int{63, 64, 255, 256, 258, 16383, 16384, 16385, 1073741823, 1073741824, 1 << 32, 1<<32 + 1, 1<<40 + 3, maxVar - 1, maxVar}
	for number := range 62 {
		if !slices.Contains(paramNumbers, number) {
			list = append(list, number)
		}
	}
	return list
}

// An entry of another number is passed over, wherever it stands and whatever its value is.
func TestP5EntriesOfOtherNumbers(t *testing.T) {
	for _, set := range entrySets() {
		entries := entriesAsked(set.p, set.server)
		for _, number := range otherNumbers() {
			for _, value := range [][]byte{nil, {5}, {64}, {255, 1}, entryOf(1, []byte{5}), rowOf(70, 1, 256)} {
				other := entryOf(number, value)
				for at := 0; at <= len(entries); at += 1 + len(entries)/3 {
					b := join(join(entries[:at]...), other, join(entries[at:]...))
					checkReadParams(t, b, set.server, set.p, impl.OK)
					checkReadParams(t, join(other, b), set.server, set.p, impl.OK)
					checkReadParamsAsked(t, join(other, b, other), set.server)
				}
			}
		}
	}
	eachSide(func(server bool) {
		takesEntries(t, []byte{6, 1, 9, 6, 1, 9}, server, noChange)
		takesEntries(t, []byte{6, 0, 7, 0, 6, 0}, server, noChange)
		takesEntries(t, []byte{6, 1, 9, 9, 1, 7, 6, 1, 8}, server, func(p *impl.Params) { p.OneWay = 7 })
	})
}

func TestP5EachEntryMissing(t *testing.T) {
	for _, set := range entrySets() {
		entries := entriesAsked(set.p, set.server)
		for i, entry := range entries {
			number, want := int(entry[0]), set.p
			for _, row := range paramRows {
				if row.number == number {
					*row.field(&want) = row.missing
				}
			}
			for _, list := range paramLists {
				if list.number == number {
					*list.field(&want) = nil
				}
			}
			want.NoMove = want.NoMove && number != 12
			b := join(slices.Delete(slices.Clone(entries), i, i+1)...)
			checkReadParams(t, b, set.server, want, impl.OK)
			checkReadParamsAsked(t, b, set.server)
			checkReadParamsAsked(t, entry, set.server)
		}
	}
}

// Each entry alone: all others are missing.
func TestP5EachEntryAlone(t *testing.T) {
	eachSide(func(server bool) {
		for _, row := range paramRows {
			for _, v := range fieldEdges(row) {
				switch {
				case inRange(v, row.least, row.most):
					takesEntries(t, entryOf(row.number, varBytes(v)), server, func(p *impl.Params) { *row.field(p) = v })
				case inRange(v, 0, maxVar):
					refusesEntries(t, entryOf(row.number, varBytes(v)), server, impl.ErrParam)
				}
			}
		}
		takesEntries(t, []byte{12, 0}, server, func(p *impl.Params) { p.NoMove = true })
		for _, list := range paramLists {
			for n := range 20 {
				value := rowOf(n, 3, 256)
				// An entry of no bytes: that there is no token is told by none.
				if listAllowed(list.number, n, server) && (list.number != 2 || n > 0) {
					takesEntries(t, entryOf(list.number, value), server, func(p *impl.Params) { *list.field(p) = value })
				} else {
					refusesEntries(t, entryOf(list.number, value), server, impl.ErrParam)
				}
			}
		}
	})
}

func TestReadParamsEachEntryTwice(t *testing.T) {
	for _, set := range entrySets() {
		entries := entriesAsked(set.p, set.server)
		for i, entry := range entries {
			refusesEntries(t, join(entry, entry), set.server, impl.ErrParam)
			for at := range len(entries) + 1 {
				refusesEntries(t, join(slices.Insert(slices.Clone(entries), at, entry)...), set.server, impl.ErrParam)
			}
			// The number stands in a longer form, the value is another.
			for _, number := range lengthened(int(entry[0]))[1:] {
				refusesEntries(t, join(join(entries...), number, entry[1:]), set.server, impl.ErrParam)
				refusesEntries(t, join(number, entry[1:], join(entries[i:]...)), set.server, impl.ErrParam)
			}
		}
		refusesEntries(t, join(join(entries...), join(entries...)), set.server, impl.ErrParam)
	}
	eachSide(func(server bool) {
		for _, row := range paramRows {
			for _, v := range []int{row.least, row.most, row.missing} {
				refusesEntries(t, join(entryOf(row.number, varBytes(row.least)), []byte{6, 0}, entryOf(row.number, varBytes(v))), server, impl.ErrParam)
			}
		}
		refusesEntries(t, []byte{12, 0, 12, 0}, server, impl.ErrParam)
		refusesEntries(t, []byte{15, 0, 15, 0}, server, impl.ErrParam)
		refusesEntries(t, []byte{0, 0, 0, 0}, server, impl.ErrParam)
	})
}

// Cut within an entry it is too short; cut between two, what stood behind is missing.
func TestReadParamsCut(t *testing.T) {
	for _, set := range entrySets() {
		entries := entriesAsked(set.p, set.server)
		b := join(entries...)
		ends := map[int]bool{}
		for i := range len(entries) + 1 {
			ends[len(join(entries[:i]...))] = true
		}
		for n := range len(b) + 1 {
			code := impl.ErrShort
			if ends[n] {
				code = impl.OK
			}
			if got := checkReadParamsAsked(t, b[:n], set.server); got != code {
				t.Errorf("%d of %d bytes: the rule as the tests have it gives %d, want %d", n, len(b), got, code)
			}
		}
	}
}

// An entry of a number of the table and of another one, in any forms, that ends ahead of the end of its number, length or value.
func TestReadParamsEntryEndsTooEarly(t *testing.T) {
	eachSide(func(server bool) {
		for _, number := range append(otherNumbers(), paramNumbers...) {
			for _, numberBytes := range lengthened(number) {
				for _, count := range lengthened(5) {
					entry := join(numberBytes, count, []byte{1, 2, 3, 4, 5})
					for n := 1; n < len(entry); n++ {
						refusesEntries(t, entry[:n], server, impl.ErrShort)
						refusesEntries(t, join([]byte{6, 1, 9}, entry[:n]), server, impl.ErrShort)
					}
				}
			}
			for _, count := range []int{1, 63, 64, 65536, 1 << 31, 1 << 32, 1<<32 + 1, maxVar} {
				refusesEntries(t, join(varBytes(number), varBytes(count)), server, impl.ErrShort)
				if count > 2 {
					refusesEntries(t, join(varBytes(number), varBytes(count), []byte{1, 2}), server, impl.ErrShort)
				}
			}
		}
	})
}

// Number and length of an entry may stand in longer forms.
func TestReadParamsLongerForms(t *testing.T) {
	for _, number := range lengthened(9) {
		for _, count := range lengthened(1) {
			takesEntries(t, join(number, count, []byte{7}), false, func(p *impl.Params) { p.OneWay = 7 })
		}
	}
	for _, number := range lengthened(12) {
		for _, count := range lengthened(0) {
			takesEntries(t, join(number, count), true, func(p *impl.Params) { p.NoMove = true })
		}
	}
	for _, number := range lengthened(0) {
		for _, count := range lengthened(3) {
			takesEntries(t, join(number, count, []byte("abc")), true, func(p *impl.Params) { p.Origin = []byte("abc") })
		}
	}
}

func TestReadParamsValuesOfNumbers(t *testing.T) {
	eachSide(func(server bool) {
		for _, row := range paramRows {
			for _, v := range []int{row.least, row.most, row.missing, min(row.most, 63), min(row.most, 64)} {
				if v < row.least {
					continue
				}
				for _, value := range lengthened(v) {
					takesEntries(t, entryOf(row.number, value), server, func(p *impl.Params) { *row.field(p) = v })
					for _, behind := range [][]byte{{0}, {5}, {255}, value, zeroes(7), zeroes(100)} {
						refusesEntries(t, entryOf(row.number, join(value, behind)), server, impl.ErrParam)
					}
					// No entry ends too early here: the value is all there, and it is no number.
					for n := range value {
						refusesEntries(t, entryOf(row.number, value[:n]), server, impl.ErrParam)
						refusesEntries(t, join(entryOf(row.number, value[:n]), []byte{15, 1, 7}), server, impl.ErrParam)
					}
				}
			}
			for _, value := range [][]byte{nil, {64}, {128}, {128, 0, 0}, {192}, {192, 0, 0, 0, 0, 0, 0}, {255}} {
				refusesEntries(t, entryOf(row.number, value), server, impl.ErrParam)
			}
		}
	})
}

func TestReadParamsValuesOfNoNumber(t *testing.T) {
	eachSide(func(server bool) {
		for _, value := range [][]byte{{0}, {1}, {255}, zeroes(2), zeroes(8), zeroes(300)} {
			refusesEntries(t, entryOf(12, value), server, impl.ErrParam)
		}
		refusesEntries(t, []byte{2, 0}, server, impl.ErrParam)
		refusesEntries(t, []byte{2, 64, 0}, server, impl.ErrParam)
		for _, n := range []int{9, 10, 16, 64, 256, 264} {
			for _, list := range paramLists {
				refusesEntries(t, entryOf(list.number, zeroes(n)), server, impl.ErrParam)
			}
		}
	})
	refusesEntries(t, []byte{0, 1, 9}, false, impl.ErrParam)
	refusesEntries(t, entryOf(2, zeroes(8)), false, impl.ErrParam)
	takesEntries(t, []byte{0, 0}, false, noChange)
	takesEntries(t, []byte{0, 0}, true, noChange)
}

// wrongEntries are those in which a fault is seen when they are read, and those that are seen to be wrong at last.
func wrongEntries() (seenAtOnce, seenAtLast [][]byte) {
	seenAtOnce = [][]byte{{12, 1, 0}, {2, 0}, {1, 0}, {1, 2, 5, 5}, {1, 1, 64}, {9, 1, 3, 9, 1, 3}, {12, 0, 12, 0}, {15, 0, 15, 0}, {32, 3, 64, 1, 1}}
	seenAtLast = [][]byte{{14, 1, 1}, {14, 1, 17}, {3, 1, 0}, {4, 1, 0}, {8, 2, 64, 65}, {15, 9, 1, 2, 3, 4, 5, 6, 7, 8, 9}, {2, 1, 7}, {2, 7, 1, 2, 3, 4, 5, 6, 7}, {0, 9, 1, 2, 3, 4, 5, 6, 7, 8, 9}}
	return seenAtOnce, seenAtLast
}

// The first fault from the left; at last whether all is valid.
func TestReadParamsOrderOfFaults(t *testing.T) {
	atOnce, atLast := wrongEntries()
	short := [][]byte{{11}, {11, 1}, {11, 2, 64}, {64}, {11, 64}, {6}, {6, 3, 1, 2}, {12, 1}, {255, 0, 0}}
	eachSide(func(server bool) {
		for _, cut := range short {
			refusesEntries(t, cut, server, impl.ErrShort)
			for _, wrong := range atOnce {
				refusesEntries(t, join(wrong, cut), server, impl.ErrParam)
				refusesEntries(t, join([]byte{5, 1, 1}, wrong, []byte{6, 0}, cut), server, impl.ErrParam)
			}
			for _, wrong := range atLast {
				refusesEntries(t, wrong, server, impl.ErrParam)
				refusesEntries(t, join(wrong, []byte{5, 1, 1}), server, impl.ErrParam)
				refusesEntries(t, join(wrong, cut), server, impl.ErrShort)
				refusesEntries(t, join(wrong, []byte{5, 1, 1}, cut), server, impl.ErrShort)
			}
		}
		// Of one entry: it ends too early, ahead of its number coming twice or its value being wrong.
		for _, cut := range [][]byte{{11}, {11, 1}, {11, 2, 5}, {11, 64}} {
			refusesEntries(t, join([]byte{11, 1, 5}, cut), server, impl.ErrShort)
		}
		refusesEntries(t, []byte{12, 2, 0}, server, impl.ErrShort)
	})
}

func TestReadParamsTooLong(t *testing.T) {
	fill := func(count int) []byte { return join([]byte{6}, longVar(count-5, 4), zeroes(count-5)) }
	eachSide(func(server bool) {
		for _, count := range []int{65535, 65536} {
			takesEntries(t, fill(count), server, noChange)
		}
		for _, b := range [][]byte{fill(65537), zeroes(65537), join([]byte{12, 1, 0}, fill(65534)), join([]byte{1, 1, 5, 1, 1, 5}, fill(70000)), join(fill(65536), []byte{1}), slices.Repeat([]byte{255}, 200000)} {
			refusesEntries(t, b, server, impl.ErrLong)
		}
		refusesEntries(t, zeroes(65536), server, impl.ErrParam)
		takesEntries(t, slices.Repeat([]byte{6, 0}, 32768), server, noChange)
		refusesEntries(t, slices.Repeat([]byte{6, 0}, 32768)[:65535], server, impl.ErrShort)
	})
}

// drawnEntries are those of drawn parameters, and what may have become of them.
func drawnEntries(more *numbers, server bool) []byte {
	p := drawnParams(more, server)
	for _, row := range paramRows {
		*row.field(&p) = max(0, min(maxVar, *row.field(&p)))
	}
	entries := entriesAsked(p, server)
	shuffle(more, entries)
	entries = entries[:len(entries)-more.below(len(entries))]
	others := otherNumbers()
	for range more.below(4) {
		other := entryOf(more.below(40), more.bytes(more.below(5)))
		if more.below(3) > 0 {
			other = entryOf(others[more.below(len(others))], more.bytes(more.below(5)))
		}
		entries = slices.Insert(entries, more.below(len(entries)+1), other)
	}
	b := join(entries...)
	switch more.below(8) {
	case 0:
		return b[:more.below(len(b)+1)]
	case 1:
		b[more.below(len(b))] ^= byte(1 << more.below(8))
	case 2:
		return join(b, entries[more.below(len(entries))])
	}
	return b
}

func TestP5ReadParamsDrawn(t *testing.T) {
	more := numbers(122)
	met := map[int]int{}
	for range 20000 {
		server := more.below(2) == 0
		b := drawnEntries(&more, server)
		met[checkReadParamsAsked(t, b, server)]++
		checkReadParamsAsked(t, b, !server)
		checkReadParamsAsked(t, more.bytes(more.below(12)), server)
	}
	for _, code := range []int{impl.OK, impl.ErrShort, impl.ErrParam} {
		if met[code] < 1000 {
			t.Errorf("code %d was met %d times", code, met[code])
		}
	}
}

// What was read is written again in the one order, and read again.
func TestP5ParamsReadAndWritten(t *testing.T) {
	more := numbers(123)
	for range 4000 {
		server := more.below(2) == 0
		p, code := impl.ReadParams(drawnEntries(&more, server), server)
		if code == impl.OK && !checkParamsAsked(t, p, server) {
			t.Errorf("%+v was read, and is not valid", p)
		}
	}
}

// All short rows of bytes, and many that are a bit longer.
func TestP1ReadParamsOfAnyBytes(t *testing.T) {
	for a := range 256 {
		checkReadParamsAsked(t, []byte{byte(a)}, true)
		for b := range 256 {
			mustEnd(t, "ReadParams", func() { checkReadParamsAsked(t, []byte{byte(a), byte(b)}, b%2 == 0) })
		}
	}
	firsts := []byte{0, 1, 2, 3, 6, 12, 14, 15, 32, 64, 128, 255}
	for _, a := range firsts {
		for _, c := range firsts {
			for b := range 256 {
				mustEnd(t, "ReadParams", func() { checkReadParamsAsked(t, []byte{a, byte(b), c}, b%2 == 0) })
			}
		}
	}
	for _, count := range []int{1 << 31, 1 << 32, 1 << 61, maxVar, math.MaxInt32} {
		mustEnd(t, fmt.Sprintf("ReadParams with a length of %d", count), func() {
			refusesEntries(t, join([]byte{15}, varBytes(count), zeroes(9)), true, impl.ErrShort)
		})
	}
}

// What stands behind the end of b is not of b.
func TestP1NoEntryBehindTheEndIsRead(t *testing.T) {
	whole := join(entriesAsked(serverParams(), true)...)
	for n := range whole {
		checkReadParamsAsked(t, whole[:n], true)
	}
	takesEntries(t, []byte{12, 0, 12, 0}[:2], false, func(p *impl.Params) { p.NoMove = true })
}

func TestP1ReadParamsMemory(t *testing.T) {
	rows := [][]byte{nil, {12}, {12, 1, 0}, {0, 9, 1, 2, 3, 4, 5, 6, 7, 8, 9}}
	for _, set := range entrySets() {
		rows = append(rows, join(entriesAsked(set.p, set.server)...))
	}
	for _, row := range rows {
		eachSide(func(server bool) {
			b := amid(row, 12)
			checkFresh(t, "ReadParams", func() [][]byte {
				p, _ := impl.ReadParams(b.list, server)
				return [][]byte{p.Origin, p.Token, p.First}
			}, func() { b.check(t, "ReadParams") })
			checkReadParamsAsked(t, b.list, server)
		})
	}
}
