package tests

import (
	"bytes"
	"fmt"
	"regexp"
	"slices"
	"strconv"
	"strings"
	"testing"

	"loop.example/g00012/impl"
)

// This file is a second program of the chapter, by its words, and what holds the calls against it.

// hyperFields are what a frame has beside its kind (Data is D, Set S), and how many bytes of Data at most.
func hyperFields(kind int) (string, int) {
	switch kind {
	case 4:
		return "S", 0
	case 7:
		return "A", 0
	case 15:
		return "AD", 1024
	}
	return "D", 16384
}

func hyperOKAsked(f impl.HFrame) bool {
	has, most := hyperFields(f.Kind)
	for field, there := range map[string]bool{"A": f.A != 0, "D": len(f.Data) > 0, "S": len(f.Set) > 0} {
		if there && !strings.Contains(has, field) {
			return false
		}
	}
	if !inRange(f.Kind, 0, maxVar) || !inRange(f.A, 0, maxVar) || len(f.Data) > most || len(f.Set) > 16 {
		return false
	}
	for i, s := range f.Set {
		if !inRange(s.Id, 0, maxVar) || !inRange(s.Value, 0, maxVar) {
			return false
		}
		for _, other := range f.Set[:i] {
			if other.Id == s.Id {
				return false
			}
		}
	}
	return true
}

// hyperBytesAsked are the bytes of a valid frame.
func hyperBytesAsked(f impl.HFrame) []byte {
	var payload []byte
	switch f.Kind {
	case 4:
		for _, s := range f.Set {
			payload = join(payload, varBytes(s.Id), varBytes(s.Value))
		}
	case 7:
		payload = varBytes(f.A)
	case 15:
		payload = join(varBytes(f.A), f.Data)
	default:
		payload = f.Data
	}
	return join(varBytes(f.Kind), varBytes(len(payload)), payload)
}

// payloadAsked is the frame of this payload, if it is that of a valid one.
func payloadAsked(kind int, payload []byte) (impl.HFrame, bool) {
	f := impl.HFrame{Kind: kind}
	has, _ := hyperFields(kind)
	switch has {
	case "S":
		r := askedReader{b: payload}
		for r.at < len(payload) && !r.short {
			id := r.variable()
			f.Set = append(f.Set, impl.Setting{Id: id, Value: r.variable()})
		}
		return f, !r.short && hyperOKAsked(f)
	case "D":
		f.Data = payload
		return f, hyperOKAsked(f)
	}
	a, next := variableAsked(payload, 0)
	if next == 0 {
		return f, false
	}
	f.A, f.Data = a, payload[next:]
	return f, hyperOKAsked(f)
}

func readHyperAsked(b []byte, at int) (impl.HFrame, int, int) {
	if len(b) > 65536 {
		return impl.HFrame{}, 0, impl.ErrLong
	}
	if !inRange(at, 0, len(b)) {
		return impl.HFrame{}, 0, impl.ErrBad
	}
	kind, next := variableAsked(b, at)
	if next == 0 {
		return impl.HFrame{}, 0, impl.ErrShort
	}
	count, from := variableAsked(b, next)
	switch {
	case from == 0:
		return impl.HFrame{}, 0, impl.ErrShort
	case count > 16384:
		return impl.HFrame{}, 0, impl.ErrForm
	case count > len(b)-from:
		return impl.HFrame{}, 0, impl.ErrShort
	}
	f, ok := payloadAsked(kind, b[from:from+count])
	if !ok {
		return impl.HFrame{}, 0, impl.ErrForm
	}
	return f, from + count, impl.OK
}

func sameHyper(a, b impl.HFrame) bool {
	return a.Kind == b.Kind && a.A == b.A && bytes.Equal(a.Data, b.Data) && slices.Equal(a.Set, b.Set)
}

// toldHyper is a frame in a failure's words, without its many bytes.
func toldHyper(f impl.HFrame) string {
	return fmt.Sprintf("kind %d, A %d, %d of Data (%.20x..), %d of Set (%v..)", f.Kind, f.A, len(f.Data), f.Data, len(f.Set), f.Set[:min(len(f.Set), 20)])
}

func checkHyperBytes(t *testing.T, f impl.HFrame, want []byte, code int) {
	t.Helper()
	if got := impl.HyperOK(f); got != (code == impl.OK) {
		t.Errorf("HyperOK(%s) = %v", toldHyper(f), got)
	}
	got, gotCode := impl.HyperBytes(f)
	if gotCode != code || !bytes.Equal(got, want) {
		t.Errorf("HyperBytes(%s) = %d bytes %.60x.. %d, want %d bytes %.60x.. %d", toldHyper(f), len(got), got, gotCode, len(want), want, code)
	}
}

// checkHyperAsked tells whether the frame is valid.
func checkHyperAsked(t *testing.T, f impl.HFrame) bool {
	t.Helper()
	if !hyperOKAsked(f) {
		checkHyperBytes(t, f, nil, impl.ErrBad)
		return false
	}
	checkHyperBytes(t, f, hyperBytesAsked(f), impl.OK)
	return true
}

func checkReadHyper(t *testing.T, b []byte, at int, want impl.HFrame, next, code int) {
	t.Helper()
	f, gotNext, gotCode := impl.ReadHyper(b, at)
	if !sameHyper(f, want) || gotNext != next || gotCode != code {
		t.Errorf("ReadHyper(%d bytes %.40x.., %d) = %s, %d, %d, want %s, %d, %d", len(b), b, at, toldHyper(f), gotNext, gotCode, toldHyper(want), next, code)
	}
}

func refusesHyper(t *testing.T, b []byte, at, code int) {
	t.Helper()
	checkReadHyper(t, b, at, impl.HFrame{}, 0, code)
}

func checkReadHyperAsked(t *testing.T, b []byte, at int) int {
	t.Helper()
	f, next, code := readHyperAsked(b, at)
	checkReadHyper(t, b, at, f, next, code)
	return code
}

// checkHyperBack has a valid frame read of its bytes, alone, ahead of other bytes, behind others and between them.
func checkHyperBack(t *testing.T, f impl.HFrame, more *numbers) {
	t.Helper()
	b, code := impl.HyperBytes(f)
	if code != impl.OK {
		t.Errorf("HyperBytes(%s): %d", toldHyper(f), code)
	}
	ahead, behind := more.bytes(1+more.below(20)), more.bytes(1+more.below(20))
	checkReadHyper(t, b, 0, f, len(b), impl.OK)
	checkReadHyper(t, join(b, behind), 0, f, len(b), impl.OK)
	checkReadHyper(t, join(ahead, b), len(ahead), f, len(ahead)+len(b), impl.OK)
	checkReadHyper(t, join(ahead, b, behind), len(ahead), f, len(ahead)+len(b), impl.OK)
}

func plainAsked(f impl.Field) bool {
	if !fieldOKAsked(f) || f.Name[0] == ':' || slices.Contains([]string{"connection", "keep-alive", "transfer-encoding", "upgrade"}, f.Name) {
		return false
	}
	return strings.Trim(f.Value, " ") == f.Value
}

var nineDigits = regexp.MustCompile(`^[0-9]{1,9}$`)

func lengthAsked(list []impl.Field) (int, int) {
	if len(list) > 64 {
		return 0, impl.ErrLong
	}
	var values []string
	for _, f := range list {
		if f.Name == "content-length" {
			values = append(values, f.Value)
		}
	}
	switch {
	case len(values) == 0:
		return -1, impl.OK
	case len(values) > 1 || !nineDigits.MatchString(values[0]):
		return 0, impl.ErrMessage
	}
	n := 0
	for _, c := range values[0] {
		n = 10*n + int(c-'0')
	}
	return n, impl.OK
}

func fieldsAsked(list []impl.Field) bool {
	_, code := lengthAsked(list)
	return len(list) <= 60 && code == impl.OK && allOf(list, plainAsked)
}

var (
	methodAsked = regexp.MustCompile(`^[A-Z]{1,16}$`)
	schemeAsked = regexp.MustCompile(`^[a-z]{1,16}$`)
	pathAsked   = regexp.MustCompile(`^/[!-~]{0,199}$`)
	statusAsked = regexp.MustCompile(`^[1-5][0-9][0-9]$`)
)

// requestOKAsked asks the authority as the value of a plain field: it is one, of any name.
func requestOKAsked(r impl.Request) bool {
	return methodAsked.MatchString(r.Method) && schemeAsked.MatchString(r.Scheme) && pathAsked.MatchString(r.Path) &&
		plainAsked(aField("any", r.Authority)) && fieldsAsked(r.Fields)
}

func requestFieldsAsked(r impl.Request) ([]impl.Field, int) {
	if !requestOKAsked(r) {
		return nil, impl.ErrBad
	}
	list := pairsOf(":method", r.Method, ":scheme", r.Scheme, ":authority", r.Authority, ":path", r.Path)
	if r.Authority == "" {
		list = slices.Delete(list, 2, 3)
	}
	return append(list, r.Fields...), impl.OK
}

// ledBy parts a list behind the last of the fields at its front that begin with a colon.
func ledBy(list []impl.Field) (front, behind []impl.Field) {
	n := 0
	for n < len(list) && strings.HasPrefix(list[n].Name, ":") {
		n++
	}
	return list[:n], list[n:]
}

func sortedFields(list []impl.Field) []impl.Field {
	return slices.SortedFunc(slices.Values(list), func(a, b impl.Field) int {
		return strings.Compare(a.Name+"\x00"+a.Value, b.Name+"\x00"+b.Value)
	})
}

// requestOfAsked takes the request whose fields, but for the order of those at the front, are the list.
func requestOfAsked(list []impl.Field) (impl.Request, int) {
	if len(list) > 64 {
		return impl.Request{}, impl.ErrLong
	}
	front, behind := ledBy(list)
	last := map[string]string{}
	for _, f := range front {
		last[f.Name] = f.Value
	}
	r := impl.Request{Method: last[":method"], Scheme: last[":scheme"], Authority: last[":authority"], Path: last[":path"], Fields: behind}
	told, code := requestFieldsAsked(r)
	if code != impl.OK {
		return impl.Request{}, impl.ErrMessage
	}
	toldFront, _ := ledBy(told)
	if !slices.Equal(sortedFields(front), sortedFields(toldFront)) {
		return impl.Request{}, impl.ErrMessage
	}
	return r, impl.OK
}

func responseFieldsAsked(r impl.Response) ([]impl.Field, int) {
	if !inRange(r.Status, 100, 599) || !fieldsAsked(r.Fields) {
		return nil, impl.ErrBad
	}
	return append(pairsOf(":status", strconv.Itoa(r.Status)), r.Fields...), impl.OK
}

func responseOfAsked(list []impl.Field) (impl.Response, int) {
	if len(list) > 64 {
		return impl.Response{}, impl.ErrLong
	}
	front, behind := ledBy(list)
	if len(front) != 1 || front[0].Name != ":status" || !statusAsked.MatchString(front[0].Value) || !fieldsAsked(behind) {
		return impl.Response{}, impl.ErrMessage
	}
	status := 0
	for _, c := range front[0].Value {
		status = 10*status + int(c-'0')
	}
	return impl.Response{Status: status, Fields: behind}, impl.OK
}

func sameRequest(a, b impl.Request) bool {
	return a.Method == b.Method && a.Scheme == b.Scheme && a.Authority == b.Authority && a.Path == b.Path && slices.Equal(a.Fields, b.Fields)
}

func sameResponse(a, b impl.Response) bool {
	return a.Status == b.Status && slices.Equal(a.Fields, b.Fields)
}

func toldRequest(r impl.Request) string {
	return fmt.Sprintf("{%.30q %.30q %.30q %.30q, %d fields: %s}", r.Method, r.Scheme, r.Authority, r.Path, len(r.Fields), toldList(r.Fields))
}

func toldResponse(r impl.Response) string {
	return fmt.Sprintf("{%d, %d fields: %s}", r.Status, len(r.Fields), toldList(r.Fields))
}

func checkLength(t *testing.T, list []impl.Field, want, code int) {
	t.Helper()
	if got, gotCode := impl.LengthOf(list); got != want || gotCode != code {
		t.Errorf("LengthOf(%s) = %d %d, want %d %d", toldList(list), got, gotCode, want, code)
	}
}

func checkLengthAsked(t *testing.T, list []impl.Field) {
	t.Helper()
	want, code := lengthAsked(list)
	checkLength(t, list, want, code)
}

func checkRequestFields(t *testing.T, r impl.Request, want []impl.Field, code int) {
	t.Helper()
	if got, gotCode := impl.RequestFields(r); !slices.Equal(got, want) || gotCode != code {
		t.Errorf("RequestFields(%s) = %d: %s, %d, want %d: %s, %d", toldRequest(r), len(got), toldList(got), gotCode, len(want), toldList(want), code)
	}
}

func checkRequestOf(t *testing.T, list []impl.Field, want impl.Request, code int) {
	t.Helper()
	if got, gotCode := impl.RequestOf(list); !sameRequest(got, want) || gotCode != code {
		t.Errorf("RequestOf(%d: %s) = %s %d, want %s %d", len(list), toldList(list), toldRequest(got), gotCode, toldRequest(want), code)
	}
}

func refusesRequestOf(t *testing.T, list []impl.Field, code int) {
	t.Helper()
	checkRequestOf(t, list, impl.Request{}, code)
}

func checkRequestOfAsked(t *testing.T, list []impl.Field) int {
	t.Helper()
	want, code := requestOfAsked(list)
	checkRequestOf(t, list, want, code)
	return code
}

func checkResponseFields(t *testing.T, r impl.Response, want []impl.Field, code int) {
	t.Helper()
	if got, gotCode := impl.ResponseFields(r); !slices.Equal(got, want) || gotCode != code {
		t.Errorf("ResponseFields(%s) = %d: %s, %d, want %d: %s, %d", toldResponse(r), len(got), toldList(got), gotCode, len(want), toldList(want), code)
	}
}

func checkResponseOf(t *testing.T, list []impl.Field, want impl.Response, code int) {
	t.Helper()
	if got, gotCode := impl.ResponseOf(list); !sameResponse(got, want) || gotCode != code {
		t.Errorf("ResponseOf(%d: %s) = %s %d, want %s %d", len(list), toldList(list), toldResponse(got), gotCode, toldResponse(want), code)
	}
}

func refusesResponseOf(t *testing.T, list []impl.Field, code int) {
	t.Helper()
	checkResponseOf(t, list, impl.Response{}, code)
}

func checkResponseOfAsked(t *testing.T, list []impl.Field) int {
	t.Helper()
	want, code := responseOfAsked(list)
	checkResponseOf(t, list, want, code)
	return code
}

// leadsOf are the fields at the front of a request's, whether it is valid or not.
func leadsOf(r impl.Request) []impl.Field {
	list := pairsOf(":method", r.Method, ":scheme", r.Scheme)
	if r.Authority != "" {
		list = append(list, aField(":authority", r.Authority))
	}
	return append(list, aField(":path", r.Path))
}

// checkRequest asks a request both ways; of one that is not valid its fields are no request either.
func checkRequest(t *testing.T, r impl.Request, ok bool) {
	t.Helper()
	if requestOKAsked(r) != ok {
		t.Errorf("a valid request? %v: %s", requestOKAsked(r), toldRequest(r))
	}
	list := append(leadsOf(r), r.Fields...)
	if ok {
		checkRequestFields(t, r, list, impl.OK)
		checkRequestOf(t, list, r, impl.OK)
		return
	}
	checkRequestFields(t, r, nil, impl.ErrBad)
	if len(list) <= 64 {
		refusesRequestOf(t, list, impl.ErrMessage)
	} else {
		refusesRequestOf(t, list, impl.ErrLong)
	}
}

func checkResponse(t *testing.T, r impl.Response, ok bool) {
	t.Helper()
	list := append(pairsOf(":status", strconv.Itoa(r.Status)), r.Fields...)
	if ok {
		checkResponseFields(t, r, list, impl.OK)
		checkResponseOf(t, list, r, impl.OK)
		return
	}
	checkResponseFields(t, r, nil, impl.ErrBad)
	if len(list) <= 64 {
		refusesResponseOf(t, list, impl.ErrMessage)
	} else {
		refusesResponseOf(t, list, impl.ErrLong)
	}
}

var (
	urgencyPart = regexp.MustCompile(`^ *u=([0-7]) *$`)
	turnsPart   = regexp.MustCompile(`^ *i(?:=\?([01]))? *$`)
)

// priorityAsked goes from the last part to the first: the first one of a sort that is met so counts.
func priorityAsked(text string) (int, bool) {
	urgency, turns := "", ""
	parts := strings.Split(text, ",")
	if len(text) > 1024 {
		parts = nil
	}
	for i := len(parts) - 1; i >= 0; i-- {
		if m := urgencyPart.FindStringSubmatch(parts[i]); m != nil && urgency == "" {
			urgency = m[1]
		}
		if m := turnsPart.FindStringSubmatch(parts[i]); m != nil && turns == "" {
			turns = map[string]string{"": "yes", "1": "yes", "0": "no"}[m[1]]
		}
	}
	if urgency == "" {
		urgency = "3"
	}
	return int(urgency[0] - '0'), turns == "yes"
}

func checkPriority(t *testing.T, text string, urgency int, turns bool) {
	t.Helper()
	if u, in := impl.ReadPriority(text); u != urgency || in != turns {
		t.Errorf("ReadPriority(%.60q, %d bytes) = %d %v, want %d %v", text, len(text), u, in, urgency, turns)
	}
}

func checkPriorityAsked(t *testing.T, text string) (int, bool) {
	t.Helper()
	urgency, turns := priorityAsked(text)
	checkPriority(t, text, urgency, turns)
	return urgency, turns
}

// kept are those of the places at which of tells the least number.
func kept(places []int, of func(place int) int) []int {
	var out []int
	for _, place := range places {
		if len(out) > 0 && of(place) < of(out[0]) {
			out = nil
		}
		if len(out) == 0 || of(place) == of(out[0]) {
			out = append(out, place)
		}
	}
	return out
}

// nextAsked sorts out step by step.
func nextAsked(list []impl.Waiting) int {
	if len(list) == 0 || len(list) > 4096 {
		return -1
	}
	var places, whole []int
	for i := range list {
		places = append(places, i)
	}
	places = kept(places, func(i int) int { return list[i].Urgency })
	for _, i := range places {
		if !list[i].Turns {
			whole = append(whole, i)
		}
	}
	if len(whole) > 0 {
		places = whole
	} else {
		places = kept(places, func(i int) int { return list[i].Sent })
	}
	return kept(places, func(i int) int { return list[i].Id })[0]
}

func checkNext(t *testing.T, list []impl.Waiting, want int) {
	t.Helper()
	if got := impl.NextStream(list); got != want {
		t.Errorf("NextStream(%d: %+v..) = %d, want %d", len(list), list[:min(len(list), 20)], got, want)
	}
}

func checkNextAsked(t *testing.T, list []impl.Waiting) int {
	t.Helper()
	want := nextAsked(list)
	checkNext(t, list, want)
	return want
}
