package tests

import (
	"bytes"
	"fmt"
	"math"
	"reflect"
	"slices"
	"testing"

	"loop.example/g00012/impl"
)

func TestAgreementLimits(t *testing.T) {
	for i, pair := range [][2]int{
		{impl.MaxNames, 4}, {impl.MaxNameLen, 16}, {impl.MaxAckDelay, 1000000}, {impl.HelloClient, 1}, {impl.HelloServer, 2},
	} {
		if pair[0] != pair[1] {
			t.Errorf("constant %d is %d, want %d", i, pair[0], pair[1])
		}
	}
}

// paramRow is a line of the chapter's table that has a number as its value.
type paramRow struct {
	number, least, most, missing int
	field                        func(p *impl.Params) *int
}

var paramRows = []paramRow{
	{1, 0, 1000000000000, 0, func(p *impl.Params) *int { return &p.Idle }},
	{3, 1200, 2000, 2000, func(p *impl.Params) *int { return &p.Size }},
	{4, 1, 16384, 4096, func(p *impl.Params) *int { return &p.ConnWindow }},
	{5, 1, 16384, 1024, func(p *impl.Params) *int { return &p.StreamWindow }},
	{8, 0, 64, 4, func(p *impl.Params) *int { return &p.TwoWay }},
	{9, 0, 64, 4, func(p *impl.Params) *int { return &p.OneWay }},
	{11, 0, 1000000, 25000, func(p *impl.Params) *int { return &p.AckDelay }},
	{14, 2, 16, 2, func(p *impl.Params) *int { return &p.Ids }},
	{32, 0, 1500, 0, func(p *impl.Params) *int { return &p.Datagram }},
}

// paramLists are the fields that are bytes, with the numbers of their entries.
var paramLists = []struct {
	number int
	field  func(p *impl.Params) *[]byte
}{
	{0, func(p *impl.Params) *[]byte { return &p.Origin }},
	{2, func(p *impl.Params) *[]byte { return &p.Token }},
	{15, func(p *impl.Params) *[]byte { return &p.First }},
}

// paramNumbers are all numbers of the table.
var paramNumbers = []int{0, 1, 2, 3, 4, 5, 8, 9, 11, 12, 14, 15, 32}

func paramsOKAsked(p impl.Params, server bool) bool {
	for _, row := range paramRows {
		if !inRange(*row.field(&p), row.least, row.most) {
			return false
		}
	}
	if !server && (len(p.Origin) > 0 || len(p.Token) > 0) {
		return false
	}
	return len(p.Origin) <= 8 && (len(p.Token) == 0 || len(p.Token) == 8) && len(p.First) <= 8
}

// entryOf is an entry: a number and its counted value.
func entryOf(number int, value []byte) []byte { return join(varBytes(number), countAhead(value)) }

// entriesAsked are the entries of parameters that are valid, as they are written.
func entriesAsked(p impl.Params, server bool) [][]byte {
	values := map[int][]byte{15: p.First}
	for _, row := range paramRows {
		values[row.number] = varBytes(*row.field(&p))
	}
	if p.NoMove {
		values[12] = nil
	}
	if server {
		values[0] = p.Origin
	}
	if server && len(p.Token) > 0 {
		values[2] = p.Token
	}
	var list [][]byte
	for number := range 33 {
		if value, ok := values[number]; ok {
			list = append(list, entryOf(number, value))
		}
	}
	return list
}

func paramsBytesAsked(p impl.Params, server bool) ([]byte, int) {
	if !paramsOKAsked(p, server) {
		return nil, impl.ErrParam
	}
	return join(entriesAsked(p, server)...), impl.OK
}

// plainLists has nil for empty lists: they are the same.
func plainLists(p impl.Params) impl.Params {
	for _, list := range paramLists {
		if len(*list.field(&p)) == 0 {
			*list.field(&p) = nil
		}
	}
	return p
}

func sameParams(a, b impl.Params) bool { return reflect.DeepEqual(plainLists(a), plainLists(b)) }

// checkParams asks ParamsOK and ParamsBytes, and has what was written read again.
func checkParams(t *testing.T, p impl.Params, server bool, want []byte, code int) {
	t.Helper()
	if ok := impl.ParamsOK(p, server); ok != (code == impl.OK) {
		t.Errorf("ParamsOK(%+v, %v) = %v", p, server, ok)
	}
	got, gotCode := impl.ParamsBytes(p, server)
	if gotCode != code || !bytes.Equal(got, want) {
		t.Errorf("ParamsBytes(%+v, %v) = %x %d, want %x %d", p, server, got, gotCode, want, code)
	}
	if code == impl.OK {
		checkReadParams(t, want, server, p, impl.OK)
	}
}

func checkParamsAsked(t *testing.T, p impl.Params, server bool) bool {
	t.Helper()
	want, code := paramsBytesAsked(p, server)
	checkParams(t, p, server, want, code)
	return code == impl.OK
}

func refusesParams(t *testing.T, p impl.Params, server bool) {
	t.Helper()
	checkParams(t, p, server, nil, impl.ErrParam)
	checkParamsAsked(t, p, server)
}

func eachSide(ask func(server bool)) {
	for _, server := range []bool{false, true} {
		ask(server)
	}
}

func leastParams() impl.Params {
	return impl.Params{Size: 1200, ConnWindow: 1, StreamWindow: 1, Ids: 2}
}

// mostParams is what a client may tell at the upper ends.
func mostParams() impl.Params {
	return impl.Params{Idle: maxTime, Size: 2000, ConnWindow: 16384, StreamWindow: 16384, TwoWay: 64, OneWay: 64, AckDelay: 1000000, Ids: 16, Datagram: 1500, NoMove: true, First: rowOf(8, 3, 256)}
}

func mostServerParams() impl.Params {
	p := mostParams()
	p.Origin, p.Token = rowOf(8, 5, 256), rowOf(8, 7, 256)
	return p
}

func clientParams() impl.Params {
	return impl.Params{Idle: 30000000, Size: 1500, ConnWindow: 8000, StreamWindow: 3000, TwoWay: 4, OneWay: 3, AckDelay: 25000, Ids: 4, Datagram: 100, First: []byte("client")}
}

func serverParams() impl.Params {
	return impl.Params{Size: 1300, ConnWindow: 63, StreamWindow: 64, TwoWay: 2, OneWay: 5, AckDelay: 1000, Ids: 3, NoMove: true, Origin: []byte("first"), Token: []byte("12345678"), First: []byte("server")}
}

func plainParams(server bool) impl.Params {
	if server {
		return serverParams()
	}
	return clientParams()
}

// The bytes were worked out by a second program.
func TestP5ParamsWorkedOutElsewhere(t *testing.T) {
	for _, c := range []struct {
		p      impl.Params
		server bool
		b      string
	}{
		{leastParams(), false, "010100030244b00401010501010801000901000b01000e01020f00200100"},
		{leastParams(), true, "0000010100030244b00401010501010801000901000b01000e01020f00200100"},
		{mostParams(), false, "0108c00000e8d4a51000030247d004048000400005048000400008024040090240400b04800f42400c000e01100f08000306090c0f1215200245dc"},
		{mostServerParams(), true, "000800050a0f14191e230108c00000e8d4a51000020800070e151c232a31030247d004048000400005048000400008024040090240400b04800f42400c000e01100f08000306090c0f1215200245dc"},
		{clientParams(), false, "010481c9c380030245dc04025f4005024bb80801040901030b04800061a80e01040f06636c69656e7420024064"},
		{serverParams(), true, "00056669727374010100020831323334353637380302451404013f050240400801020901050b0243e80c000e01030f06736572766572200100"},
	} {
		checkParams(t, c.p, c.server, unhex(t, c.b), impl.OK)
		checkParamsAsked(t, c.p, c.server)
	}
}

// fieldEdges are the ends of what is valid, what lies beside them, and what is far from them.
func fieldEdges(row paramRow) []int {
	return []int{row.least - 1, row.least, row.least + 1, row.most - 1, row.most, row.most + 1, row.missing, 0, 1, -1, -row.most, 63, 64, maxVar, maxVar + 1, math.MinInt, math.MaxInt}
}

func TestP5ParamsFieldsAtTheirEnds(t *testing.T) {
	eachSide(func(server bool) {
		for _, row := range paramRows {
			for _, v := range fieldEdges(row) {
				for _, p := range []impl.Params{leastParams(), mostParams(), plainParams(server)} {
					*row.field(&p) = v
					if !inRange(v, row.least, row.most) {
						refusesParams(t, p, server)
					} else if !checkParamsAsked(t, p, server) {
						t.Errorf("entry %d may not be %d", row.number, v)
					}
				}
			}
		}
	})
}

func TestP5ParamsEveryValueOfSmallFields(t *testing.T) {
	eachSide(func(server bool) {
		for _, row := range paramRows {
			for v := row.least - 2; v <= min(row.most+2, row.least+2100); v++ {
				p := plainParams(server)
				*row.field(&p) = v
				checkParamsAsked(t, p, server)
			}
		}
	})
}

// listAllowed tells whether a list may have n bytes.
func listAllowed(number, n int, server bool) bool {
	switch {
	case number == 15:
		return n <= 8
	case !server:
		return n == 0
	case number == 2:
		return n == 0 || n == 8
	}
	return n <= 8
}

func TestP5ParamsListsOfEveryLength(t *testing.T) {
	eachSide(func(server bool) {
		for _, list := range paramLists {
			for _, n := range []int{0, 1, 2, 3, 4, 5, 6, 7, 8, 9, 10, 15, 16, 17, 64, 255, 256, 264, 65536, 65537, 70000} {
				for _, p := range []impl.Params{leastParams(), mostParams(), plainParams(server)} {
					*list.field(&p) = rowOf(n, 3, 256)
					if !listAllowed(list.number, n, server) {
						refusesParams(t, p, server)
					} else if !checkParamsAsked(t, p, server) {
						t.Errorf("entry %d may not have %d bytes, of a server: %v", list.number, n, server)
					}
				}
			}
		}
	})
}

// What a server alone may tell is refused of a client, one by one and together.
func TestParamsOfTheOtherSide(t *testing.T) {
	for _, change := range []func(p *impl.Params){
		func(p *impl.Params) { p.Token = nil },
		func(p *impl.Params) { p.Origin = nil },
		func(p *impl.Params) { p.Origin = zeroes(1) },
		func(p *impl.Params) {},
	} {
		p := serverParams()
		change(&p)
		checkParamsAsked(t, p, true)
		refusesParams(t, p, false)
	}
	// All that a client may tell a server may tell too.
	for _, p := range []impl.Params{leastParams(), mostParams(), clientParams()} {
		if !impl.ParamsOK(p, false) || !impl.ParamsOK(p, true) {
			t.Errorf("%+v is not valid of both", p)
		}
	}
}

func TestParamsTwoFaultsAtOnce(t *testing.T) {
	eachSide(func(server bool) {
		for i, row := range paramRows {
			for j, other := range paramRows {
				p := plainParams(server)
				*row.field(&p) = row.most + 1
				if i != j {
					*other.field(&p) = other.least - 1
				}
				refusesParams(t, p, server)
				p.First = zeroes(9)
				refusesParams(t, p, server)
			}
		}
	})
	eachSide(func(server bool) { refusesParams(t, impl.Params{}, server) })
}

func TestParamsFlag(t *testing.T) {
	eachSide(func(server bool) {
		p := plainParams(server)
		p.NoMove = false
		without, _ := impl.ParamsBytes(p, server)
		p.NoMove = true
		with, _ := impl.ParamsBytes(p, server)
		at := bytes.Index(with, []byte{12, 0, 14})
		if at < 0 || !bytes.Equal(without, slices.Delete(slices.Clone(with), at, at+2)) {
			t.Errorf("with NoMove %x, without %x", with, without)
		}
	})
}

// drawnParams is valid but now and then.
func drawnParams(more *numbers, server bool) impl.Params {
	p := impl.Params{NoMove: more.below(2) == 0, First: more.bytes(more.below(9))}
	for _, row := range paramRows {
		*row.field(&p) = row.least + int(more.next()>>(2+more.below(60)))%(row.most-row.least+1)
		if more.below(60) == 0 {
			*row.field(&p) = near(more, row.least, row.most)
		}
	}
	if server {
		p.Origin, p.Token = more.bytes(more.below(9)), more.bytes(8*more.below(2))
	}
	if more.below(30) == 0 {
		*paramLists[more.below(3)].field(&p) = more.bytes(more.below(12))
	}
	return p
}

func TestP5ParamsDrawn(t *testing.T) {
	more := numbers(120)
	right, wrong := 0, 0
	for range 6000 {
		server := more.below(2) == 0
		if checkParamsAsked(t, drawnParams(&more, server), server) {
			right++
		} else {
			wrong++
		}
	}
	if min(right, wrong) < 500 {
		t.Errorf("%d were valid, %d not", right, wrong)
	}
}

func TestP1ParamsTakeAnyIntegers(t *testing.T) {
	for _, v := range oddInts() {
		mustEnd(t, fmt.Sprintf("parameters with %d", v), func() {
			eachSide(func(server bool) {
				all := plainParams(server)
				for _, row := range paramRows {
					p := plainParams(server)
					*row.field(&p), *row.field(&all) = v, v
					checkParamsAsked(t, p, server)
				}
				checkParamsAsked(t, all, server)
			})
		})
	}
}

// fencedParams has each list within a longer one.
type fencedParams struct {
	p, before impl.Params
	lists     []fenced[byte]
}

func fenceParams(p impl.Params) fencedParams {
	f := fencedParams{p: p}
	for _, list := range paramLists {
		f.lists = append(f.lists, amid(*list.field(&p), 0xee))
		*list.field(&f.p) = f.lists[len(f.lists)-1].list
	}
	f.before = f.p
	return f
}

func (f fencedParams) check(t *testing.T, call string) {
	t.Helper()
	for _, list := range f.lists {
		list.check(t, call)
	}
	if !reflect.DeepEqual(f.p, f.before) {
		t.Errorf("%s wrote into its argument", call)
	}
}

func wrongParams() []impl.Params {
	long, token, low := serverParams(), serverParams(), serverParams()
	long.First, token.Token, low.Ids = rowOf(9, 1, 256), rowOf(7, 1, 256), 1
	return []impl.Params{long, token, low, {}}
}

func TestP1ParamsBytesMemory(t *testing.T) {
	for _, p := range append(wrongParams(), leastParams(), mostParams(), mostServerParams(), clientParams(), serverParams()) {
		eachSide(func(server bool) {
			arg := fenceParams(p)
			checkFresh(t, "ParamsBytes", func() [][]byte {
				b, _ := impl.ParamsBytes(arg.p, server)
				return [][]byte{b}
			}, func() { arg.check(t, "ParamsBytes") })
			impl.ParamsOK(arg.p, server)
			arg.check(t, "ParamsOK")
			checkParamsAsked(t, arg.p, server)
		})
	}
}

// The lists of an argument may lie in one memory.
func TestP1ParamsThatLieTogether(t *testing.T) {
	row := amid(rowOf(20, 7, 256), 0xee)
	p := leastParams()
	p.Origin, p.Token, p.First = row.list[:8], row.list[4:12], row.list[3:9]
	b, _ := impl.ParamsBytes(p, true)
	spoil(b)
	checkParamsAsked(t, p, true)
	refusesParams(t, p, false)
	row.check(t, "ParamsBytes")
}

// An empty list and nil are the same.
func TestP1ParamsOfEmptyLists(t *testing.T) {
	eachSide(func(server bool) {
		want, _ := paramsBytesAsked(leastParams(), server)
		for bits := range 8 {
			p := leastParams()
			for i, list := range paramLists {
				if bits>>i&1 == 1 {
					*list.field(&p) = []byte{}
				}
			}
			checkParams(t, p, server, want, impl.OK)
		}
	})
}

func TestP1ParamsKeepNothing(t *testing.T) {
	checkKeepsNothing(t, func() string {
		told := ""
		for _, p := range append(wrongParams(), mostServerParams(), clientParams()) {
			b, code := impl.ParamsBytes(p, true)
			read, readCode := impl.ReadParams(b, true)
			told += fmt.Sprintln(impl.ParamsOK(p, false), b, code, read, readCode)
		}
		return told
	})
}
