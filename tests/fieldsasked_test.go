package tests

import (
	"slices"
	"strings"

	"loop.example/g00012/impl"
)

// This file is a second program of the chapter: plain lists that are gone through from end to end, by the chapter's words.

// fixedRows is the fixed table, an entry a line.
const fixedRows = `:path /
:method GET
:method POST
:method HEAD
:method DELETE
:authority
:scheme https
:status 200
:status 204
:status 206
:status 304
:status 400
:status 404
:status 405
:status 500
accept */*
content-length 0
content-type text/plain
content-type application/json
cookie
date
etag
location
priority `

func fixedAsked() []impl.Field {
	var list []impl.Field
	for _, row := range strings.Split(fixedRows, "\n") {
		name, value, _ := strings.Cut(row, " ")
		list = append(list, impl.Field{Name: name, Value: value})
	}
	return list
}

// nameBytes are all that a name may have.
const nameBytes = "!\"#$%&'()*+,-./0123456789:;<=>?@[\\]^_`abcdefghijklmnopqrstuvwxyz{|}~"

func fieldOKAsked(f impl.Field) bool {
	if len(f.Name) == 0 || len(f.Name) > 64 || len(f.Value) > 1024 {
		return false
	}
	for _, c := range []byte(f.Name) {
		if strings.IndexByte(nameBytes, c) < 0 {
			return false
		}
	}
	return !strings.Contains(f.Value, "\x00") && !strings.Contains(f.Value, "\n") && !strings.Contains(f.Value, "\r")
}

func fieldsOKAsked(list []impl.Field) bool {
	for _, f := range list {
		if !fieldOKAsked(f) {
			return false
		}
	}
	return true
}

func costAsked(list ...impl.Field) int {
	sum := 0
	for _, f := range list {
		sum += 32 + len(f.Name) + len(f.Value)
	}
	return sum
}

func tableOKAsked(t impl.Table) bool {
	return inRange(t.Most, 0, 4096) && inRange(t.Cap, 0, t.Most) && fieldsOKAsked(t.Entries) && costAsked(t.Entries...) <= t.Cap && inRange(t.Added, len(t.Entries), maxVar-1)
}

// fitted lets the oldest go.
func fitted(list []impl.Field, limit int) []impl.Field {
	for costAsked(list...) > limit {
		list = list[1:]
	}
	return slices.Clone(list)
}

func tableCapAsked(t impl.Table, n int) (impl.Table, int) {
	if !tableOKAsked(t) {
		return impl.Table{}, impl.ErrBad
	}
	if !inRange(n, 0, t.Most) {
		return impl.Table{}, impl.ErrTable
	}
	t.Cap, t.Entries = n, fitted(t.Entries, n)
	return t, impl.OK
}

func tableAddAsked(t impl.Table, f impl.Field) (impl.Table, int) {
	if !tableOKAsked(t) || !fieldOKAsked(f) || t.Added == maxVar-1 {
		return impl.Table{}, impl.ErrBad
	}
	if costAsked(f) > t.Cap {
		return impl.Table{}, impl.ErrTable
	}
	t.Added, t.Entries = t.Added+1, fitted(append(slices.Clone(t.Entries), f), t.Cap)
	return t, impl.OK
}

// oldestOf is the number of the first entry that is there.
func oldestOf(t impl.Table) int { return t.Added - len(t.Entries) }

func tableGetAsked(t impl.Table, n int) (impl.Field, int) {
	if !tableOKAsked(t) {
		return impl.Field{}, impl.ErrBad
	}
	for i, f := range t.Entries {
		if oldestOf(t)+i == n {
			return f, impl.OK
		}
	}
	return impl.Field{}, impl.ErrTable
}

func encoderOKAsked(e impl.Encoder) bool {
	if !tableOKAsked(e.Table) || !inRange(e.Known, 0, e.Table.Added) || !inRange(e.Blocked, 0, 64) || len(e.Open) > 64 {
		return false
	}
	for _, ref := range e.Open {
		if !inRange(ref.Stream, 0, maxVar) || !inRange(ref.Need, 1, e.Table.Added) || !inRange(ref.Least, 0, ref.Need-1) {
			return false
		}
	}
	return true
}

// waitingOf are the streams that wait, each once.
func waitingOf(e impl.Encoder) []int {
	var list []int
	for _, ref := range e.Open {
		if ref.Need > e.Known && !slices.Contains(list, ref.Stream) {
			list = append(list, ref.Stream)
		}
	}
	return list
}

func prefixAsked(v, bits, high int) []byte {
	b, code := putPrefixAsked(v, bits, high)
	if code != impl.OK {
		panic("a number that no prefix holds")
	}
	return b
}

func textAsked(text string) []byte { return join(prefixAsked(len(text), 7, 0), []byte(text)) }

// namedAsked is what tells a value of its own: by the name's place in the fixed table, else with the name's bytes.
func namedAsked(f impl.Field, fixedBits, fixedHigh, ownBits, ownHigh int) []byte {
	at := slices.IndexFunc(fixedAsked(), func(g impl.Field) bool { return g.Name == f.Name })
	if at >= 0 {
		return join(prefixAsked(at, fixedBits, fixedHigh), textAsked(f.Value))
	}
	return join(prefixAsked(len(f.Name), ownBits, ownHigh), []byte(f.Name), textAsked(f.Value))
}

// askedSection is a section that is made, and what was met by that.
type askedSection struct {
	e        impl.Encoder
	stream   int
	refers   []int
	instr    []byte
	how, num []int // of each field its rule and the number of its entry
	met      map[string]int
}

func (s *askedSection) may(n int) bool {
	if len(s.e.Open) >= 64 {
		return false
	}
	waiting := waitingOf(s.e)
	return n < s.e.Known || slices.Contains(waiting, s.stream) || len(waiting) < s.e.Blocked
}

// mustStay tells whether the entry n may not go.
func (s *askedSection) mustStay(n int) bool {
	if n >= s.e.Known {
		s.met["stays: not known"]++
		return true
	}
	for _, ref := range s.e.Open {
		if n >= ref.Least {
			s.met["stays: an open section"]++
			return true
		}
	}
	for _, m := range s.refers {
		if n >= m {
			s.met["stays: this section"]++
			return true
		}
	}
	return false
}

func (s *askedSection) mayAdd(f impl.Field) bool {
	if costAsked(f)*2 > s.e.Table.Cap || s.e.Table.Added >= maxVar-1 || slices.Contains(s.e.Table.Entries, f) {
		return false
	}
	behind, _ := tableAddAsked(s.e.Table, f)
	for n := oldestOf(s.e.Table); n < oldestOf(behind); n++ {
		if s.mustStay(n) {
			return false
		}
		s.met["goes"]++
	}
	return true
}

func (s *askedSection) take(rule, n int) {
	s.how, s.num = append(s.how, rule), append(s.num, n)
	if rule == 2 {
		s.refers = append(s.refers, n)
	}
}

func (s *askedSection) field(f impl.Field) {
	if at := slices.Index(fixedAsked(), f); at >= 0 {
		s.met["fixed"]++
		s.take(1, at)
		return
	}
	for n := s.e.Table.Added - 1; n >= oldestOf(s.e.Table); n-- {
		if g, _ := tableGetAsked(s.e.Table, n); g == f && s.may(n) {
			s.met["there"]++
			s.take(2, n)
			return
		}
	}
	if s.mayAdd(f) {
		s.instr = append(s.instr, namedAsked(f, 6, 192, 5, 64)...)
		s.e.Table, _ = tableAddAsked(s.e.Table, f)
		if n := s.e.Table.Added - 1; s.may(n) {
			s.met["added"]++
			s.take(2, n)
			return
		}
		s.met["added for later"]++
	}
	s.met["literal"]++
	s.take(4, 0)
}

func encodeAskedMet(e impl.Encoder, stream int, list []impl.Field, met map[string]int) (impl.Encoder, []byte, []byte, int) {
	if len(list) > 64 {
		return impl.Encoder{}, nil, nil, impl.ErrLong
	}
	if !encoderOKAsked(e) || !inRange(stream, 0, maxVar) || !fieldsOKAsked(list) {
		return impl.Encoder{}, nil, nil, impl.ErrBad
	}
	s := &askedSection{e: e, stream: stream, met: met}
	for _, f := range list {
		s.field(f)
	}
	need := 0
	if len(s.refers) > 0 {
		need = slices.Max(s.refers) + 1
	}
	section := prefixAsked(need, 8, 0)
	for i, f := range list {
		switch s.how[i] {
		case 1:
			section = append(section, prefixAsked(s.num[i], 6, 192)...)
		case 2:
			section = append(section, prefixAsked(need-1-s.num[i], 6, 128)...)
		case 4:
			section = append(section, namedAsked(f, 5, 96, 5, 32)...)
		}
	}
	if len(section) > 16384 {
		return impl.Encoder{}, nil, nil, impl.ErrLong
	}
	if need > 0 {
		s.e.Open = append(slices.Clone(e.Open), impl.Ref{Stream: stream, Need: need, Least: slices.Min(s.refers)})
	}
	return s.e, s.instr, section, impl.OK
}

func encodeAsked(e impl.Encoder, stream int, list []impl.Field) (impl.Encoder, []byte, []byte, int) {
	return encodeAskedMet(e, stream, list, map[string]int{})
}

// ackAsked does what one instruction says, which begins at at; ErrShort if it is not whole.
func ackAsked(e impl.Encoder, b []byte, at int) (impl.Encoder, int, int) {
	bits := 6
	if b[at] >= 128 {
		bits = 7
	}
	number, next, code := getPrefixAsked(b, at, bits)
	if code != impl.OK {
		return e, 0, code
	}
	var left, gone []impl.Ref
	for _, ref := range e.Open {
		if ref.Stream == number && (b[at] < 128 || len(gone) == 0) {
			gone = append(gone, ref)
		} else {
			left = append(left, ref)
		}
	}
	switch {
	case b[at] >= 128:
		if len(gone) == 0 {
			return e, 0, impl.ErrTable
		}
		e.Open = left
		e.Known = max(e.Known, gone[0].Need)
	case b[at] >= 64:
		e.Open = left
	default:
		if number == 0 || number > e.Table.Added-e.Known {
			return e, 0, impl.ErrTable
		}
		e.Known += number
	}
	return e, next, impl.OK
}

func readAcksAsked(e impl.Encoder, b []byte) (impl.Encoder, int, int) {
	if len(b) > 65536 {
		return impl.Encoder{}, 0, impl.ErrLong
	}
	if !encoderOKAsked(e) {
		return impl.Encoder{}, 0, impl.ErrBad
	}
	at := 0
	for at < len(b) {
		behind, next, code := ackAsked(e, b, at)
		if code == impl.ErrShort {
			break
		}
		if code != impl.OK {
			return impl.Encoder{}, 0, code
		}
		e, at = behind, next
	}
	return e, at, impl.OK
}

// getTextAsked is a text of n bytes at most, the place behind it, a code.
func getTextAsked(b []byte, at, n, most int) (string, int, int) {
	if n > most {
		return "", 0, impl.ErrForm
	}
	if at+n > len(b) {
		return "", 0, impl.ErrShort
	}
	return string(b[at : at+n]), at + n, impl.OK
}

func getValueAsked(b []byte, at int) (string, int, int) {
	n, next, code := getPrefixAsked(b, at, 7)
	if code != impl.OK {
		return "", 0, code
	}
	return getTextAsked(b, next, n, 1024)
}

func getFixedAsked(i int) (impl.Field, int) {
	if list := fixedAsked(); i < len(list) {
		return list[i], impl.OK
	}
	return impl.Field{}, impl.ErrTable
}

func addedAsked(t impl.Table, f impl.Field) (impl.Table, int) {
	if !fieldOKAsked(f) {
		return t, impl.ErrForm
	}
	behind, code := tableAddAsked(t, f)
	if code != impl.OK {
		return t, impl.ErrTable
	}
	return behind, impl.OK
}

// shortInstrAsked is an instruction without a value: a capacity, or an entry once more.
func shortInstrAsked(t impl.Table, b []byte, at int) (impl.Table, int, int) {
	number, next, code := getPrefixAsked(b, at, 5)
	if code != impl.OK {
		return t, 0, code
	}
	if b[at] >= 32 {
		behind, code := tableCapAsked(t, number)
		return behind, next, code
	}
	f, code := tableGetAsked(t, t.Added-1-number)
	if code != impl.OK {
		return t, 0, code
	}
	behind, code := addedAsked(t, f)
	return behind, next, code
}

func instrAsked(t impl.Table, b []byte, at int) (impl.Table, int, int) {
	if b[at] < 64 {
		return shortInstrAsked(t, b, at)
	}
	bits := 5
	if b[at] >= 128 {
		bits = 6
	}
	number, next, code := getPrefixAsked(b, at, bits)
	if code != impl.OK {
		return t, 0, code
	}
	var name string
	if b[at] < 128 {
		if name, next, code = getTextAsked(b, next, number, 64); code != impl.OK {
			return t, 0, code
		}
	}
	value, next, code := getValueAsked(b, next)
	if code != impl.OK {
		return t, 0, code
	}
	f := impl.Field{Name: name}
	switch {
	case b[at] >= 192:
		f, code = getFixedAsked(number)
	case b[at] >= 128:
		f, code = tableGetAsked(t, t.Added-1-number)
	}
	if code != impl.OK {
		return t, 0, code
	}
	behind, code := addedAsked(t, impl.Field{Name: f.Name, Value: value})
	return behind, next, code
}

func decoderOKAsked(d impl.Decoder) bool {
	return tableOKAsked(d.Table) && inRange(d.Told, 0, d.Table.Added)
}

func readInstrAsked(d impl.Decoder, b []byte) (impl.Decoder, int, int) {
	if len(b) > 65536 {
		return impl.Decoder{}, 0, impl.ErrLong
	}
	if !decoderOKAsked(d) {
		return impl.Decoder{}, 0, impl.ErrBad
	}
	at := 0
	for at < len(b) {
		behind, next, code := instrAsked(d.Table, b, at)
		if code == impl.ErrShort {
			break
		}
		if code != impl.OK {
			return impl.Decoder{}, 0, code
		}
		d.Table, at = behind, next
	}
	return d, at, impl.OK
}

func lineAsked(d impl.Decoder, b []byte, at, need int) (impl.Field, int, int) {
	first := b[at]
	if first < 32 {
		return impl.Field{}, 0, impl.ErrForm
	}
	bits := 5
	if first >= 128 {
		bits = 6
	}
	number, next, code := getPrefixAsked(b, at, bits)
	if code != impl.OK {
		return impl.Field{}, 0, code
	}
	var f impl.Field
	switch {
	case first >= 192, first >= 96 && first < 128:
		f, code = getFixedAsked(number)
	case first >= 64:
		f, code = tableGetAsked(d.Table, need-1-number)
	default:
		f.Name, next, code = getTextAsked(b, next, number, 64)
	}
	if code == impl.OK && first < 128 {
		f.Value, next, code = getValueAsked(b, next)
	}
	return f, next, code
}

func decodeAsked(d impl.Decoder, b []byte) ([]impl.Field, int, int) {
	need, at, code := getPrefixAsked(b, 0, 8)
	if code != impl.OK {
		return nil, 0, code
	}
	if !decoderOKAsked(d) {
		return nil, 0, impl.ErrBad
	}
	if len(b) > 16384 {
		return nil, 0, impl.ErrForm
	}
	if need > d.Table.Added {
		return nil, 0, impl.ErrBlocked
	}
	var list []impl.Field
	for at < len(b) {
		f, next, code := lineAsked(d, b, at, need)
		if code != impl.OK {
			return nil, 0, code
		}
		if list = append(list, f); !fieldOKAsked(f) || len(list) > 64 {
			return nil, 0, impl.ErrForm
		}
		at = next
	}
	return list, need, impl.OK
}
