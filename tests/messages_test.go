package tests

import (
	"fmt"
	"math"
	"slices"
	"strconv"
	"strings"
	"testing"

	"loop.example/g00012/impl"
)

func aLength(value string) impl.Field { return aField("content-length", value) }

func TestLengthOf(t *testing.T) {
	checkLength(t, nil, -1, impl.OK)
	checkLength(t, []impl.Field{}, -1, impl.OK)
	checkLength(t, pairsOf("a", "1"), -1, impl.OK)
	for _, c := range []struct {
		value      string
		want, code int
	}{
		{"", 0, impl.ErrMessage}, {"0", 0, impl.OK}, {"1", 1, impl.OK}, {"9", 9, impl.OK}, {"10", 10, impl.OK}, {"12345678", 12345678, impl.OK},
		{"123456789", 123456789, impl.OK}, {"999999999", 999999999, impl.OK}, {"1000000000", 0, impl.ErrMessage}, {"1234567890", 0, impl.ErrMessage}, {"12345678901234567890123", 0, impl.ErrMessage},
		{"000", 0, impl.OK}, {"007", 7, impl.OK}, {"000000000", 0, impl.OK}, {"000000001", 1, impl.OK}, {"0000000000", 0, impl.ErrMessage}, {"0000000001", 0, impl.ErrMessage}, {"010", 10, impl.OK},
		{"+1", 0, impl.ErrMessage}, {"-1", 0, impl.ErrMessage}, {"-0", 0, impl.ErrMessage}, {"-", 0, impl.ErrMessage}, {"+", 0, impl.ErrMessage},
		{" 1", 0, impl.ErrMessage}, {"1 ", 0, impl.ErrMessage}, {"1 2", 0, impl.ErrMessage}, {" ", 0, impl.ErrMessage}, {"1\n", 0, impl.ErrMessage}, {"\t1", 0, impl.ErrMessage},
		{"a", 0, impl.ErrMessage}, {"1a", 0, impl.ErrMessage}, {"a1", 0, impl.ErrMessage}, {"0x1", 0, impl.ErrMessage}, {"1_0", 0, impl.ErrMessage}, {"1e3", 0, impl.ErrMessage}, {"1,2", 0, impl.ErrMessage}, {"1, 1", 0, impl.ErrMessage}, {"1.0", 0, impl.ErrMessage},
		{"/", 0, impl.ErrMessage}, {":", 0, impl.ErrMessage}, {"1/", 0, impl.ErrMessage}, {"1:", 0, impl.ErrMessage}, {"\uff11", 0, impl.ErrMessage}, {"\u0663", 0, impl.ErrMessage}, {"1\x00", 0, impl.ErrMessage}, {"\xff", 0, impl.ErrMessage},
	} {
		checkLength(t, []impl.Field{aLength(c.value)}, c.want, c.code)
		checkLengthAsked(t, []impl.Field{aLength(c.value)})
		// Wherever it stands, and whatever stands beside it: the others are not looked at.
		for _, list := range [][]impl.Field{
			{aField("a", "b"), aLength(c.value)}, {aLength(c.value), aField("a", "b")}, {aField("", ""), aLength(c.value), aField("A", "\n")},
			{aField("Content-Length", "5"), aField("content-lengt", "6"), aField("content-length2", "7"), aField(" content-length", "8"), aField("content-length ", "9"), aField("content_length", "10"), aLength(c.value)},
		} {
			checkLength(t, list, c.want, c.code)
		}
	}
	checkLength(t, pairsOf("Content-Length", "5", "content-lengt", "6", "content-length2", "7", "", "8", ":content-length", "9"), -1, impl.OK)
}

func TestLengthOfTwice(t *testing.T) {
	for _, a := range []string{"0", "1", "7", "x", "", "0000000001"} {
		for _, b := range []string{"0", "1", "7", "x", "", "0000000001"} {
			for _, list := range [][]impl.Field{
				{aLength(a), aLength(b)}, {aLength(a), aField("a", ""), aLength(b)}, {aField("a", ""), aLength(a), aLength(b), aField("b", "")}, {aLength(a), aLength(b), aLength(a)},
			} {
				checkLength(t, list, 0, impl.ErrMessage)
				checkLengthAsked(t, list)
			}
		}
	}
}

// fieldsOf are so many plain fields.
func fieldsOf(count int) []impl.Field {
	var list []impl.Field
	for i := range count {
		list = append(list, aField("f"+strconv.Itoa(i), strconv.Itoa(i*i)))
	}
	return list
}

func TestLengthOfCounts(t *testing.T) {
	for _, n := range []int{0, 1, 2, 60, 61, 63, 64} {
		checkLength(t, fieldsOf(n), -1, impl.OK)
		checkLength(t, make([]impl.Field, n), -1, impl.OK)
		if n > 0 {
			checkLength(t, append(fieldsOf(n-1), aLength("12")), 12, impl.OK)
			checkLength(t, append(fieldsOf(n-1), aLength("x")), 0, impl.ErrMessage)
			checkLength(t, append([]impl.Field{aLength("12")}, fieldsOf(n-1)...), 12, impl.OK)
		}
	}
	for _, n := range []int{65, 66, 100, 4096, 4097} {
		checkLength(t, fieldsOf(n), 0, impl.ErrLong)
		checkLength(t, append(fieldsOf(n-1), aLength("12")), 0, impl.ErrLong)
		checkLength(t, slices.Repeat([]impl.Field{aLength("x")}, n), 0, impl.ErrLong)
		checkLength(t, make([]impl.Field, n), 0, impl.ErrLong)
	}
}

func plainRequest() impl.Request {
	return impl.Request{Method: "POST", Scheme: "https", Authority: "a.example", Path: "/a/b?c=1", Fields: pairsOf("accept", "*/*", "content-length", "12", "x-y", "")}
}

// leastRequest is as short as one can be.
func leastRequest() impl.Request { return impl.Request{Method: "G", Scheme: "h", Path: "/"} }

func mostRequest() impl.Request {
	fields := append(fieldsOf(58), aField(nameBytes[:25], strings.Repeat("v", 1024)), aLength("999999999"))
	return impl.Request{Method: "ABCDEFGHIJKLMNOZ", Scheme: "abcdefghijklmnoz", Authority: strings.Repeat("\xff", 1024), Path: "/" + strings.Repeat("~", 199), Fields: fields}
}

func TestP21RequestsWrittenOut(t *testing.T) {
	for _, c := range []struct {
		r    impl.Request
		list []impl.Field
	}{
		{plainRequest(), pairsOf(":method", "POST", ":scheme", "https", ":authority", "a.example", ":path", "/a/b?c=1", "accept", "*/*", "content-length", "12", "x-y", "")},
		{leastRequest(), pairsOf(":method", "G", ":scheme", "h", ":path", "/")},
		{impl.Request{Method: "GET", Scheme: "https", Path: "/", Fields: pairsOf("b", "2", "a", "1", "b", "2", "a", "3")}, pairsOf(":method", "GET", ":scheme", "https", ":path", "/", "b", "2", "a", "1", "b", "2", "a", "3")},
		{impl.Request{Method: "GET", Scheme: "https", Authority: "x", Path: "/y", Fields: []impl.Field{}}, pairsOf(":method", "GET", ":scheme", "https", ":authority", "x", ":path", "/y")},
	} {
		checkRequestFields(t, c.r, c.list, impl.OK)
		checkRequestOf(t, c.list, c.r, impl.OK)
		checkRequest(t, c.r, true)
	}
	checkRequest(t, mostRequest(), true)
	for _, c := range []struct {
		r    impl.Response
		list []impl.Field
	}{
		{impl.Response{Status: 200}, pairsOf(":status", "200")},
		{impl.Response{Status: 404, Fields: pairsOf("content-length", "0", "a", "b c")}, pairsOf(":status", "404", "content-length", "0", "a", "b c")},
		{impl.Response{Status: 100, Fields: pairsOf("b", "", "a", "", "b", "")}, pairsOf(":status", "100", "b", "", "a", "", "b", "")},
	} {
		checkResponseFields(t, c.r, c.list, impl.OK)
		checkResponseOf(t, c.list, c.r, impl.OK)
	}
}

// eachRequest has a plain request changed, and one without anything that may be missing.
func eachRequest(change func(r *impl.Request), ask func(r impl.Request)) {
	for _, r := range []impl.Request{plainRequest(), leastRequest()} {
		change(&r)
		ask(r)
	}
}

func checkMethod(t *testing.T, text string, ok bool) {
	t.Helper()
	eachRequest(func(r *impl.Request) { r.Method = text }, func(r impl.Request) { checkRequest(t, r, ok) })
}

func checkScheme(t *testing.T, text string, ok bool) {
	t.Helper()
	eachRequest(func(r *impl.Request) { r.Scheme = text }, func(r impl.Request) { checkRequest(t, r, ok) })
}

func checkPath(t *testing.T, text string, ok bool) {
	t.Helper()
	eachRequest(func(r *impl.Request) { r.Path = text }, func(r impl.Request) { checkRequest(t, r, ok) })
}

func checkAuthority(t *testing.T, text string, ok bool) {
	t.Helper()
	eachRequest(func(r *impl.Request) { r.Authority = text }, func(r impl.Request) { checkRequest(t, r, ok) })
}

func TestP21Words(t *testing.T) {
	for n := range 20 {
		checkMethod(t, strings.Repeat("M", n), n >= 1 && n <= 16)
		checkScheme(t, strings.Repeat("m", n), n >= 1 && n <= 16)
	}
	for _, n := range []int{64, 1024, 1025, 70000} {
		checkMethod(t, strings.Repeat("M", n), false)
		checkScheme(t, strings.Repeat("m", n), false)
	}
	for c := range 256 {
		b := string([]byte{byte(c)})
		capital, small := c >= 65 && c <= 90, c >= 97 && c <= 122
		for _, n := range []int{0, 1, 14} {
			checkMethod(t, b+strings.Repeat("M", n), capital)
			checkMethod(t, strings.Repeat("M", n)+b, capital)
			checkMethod(t, "A"+b+"Z", capital)
			checkScheme(t, b+strings.Repeat("m", n), small)
			checkScheme(t, strings.Repeat("m", n)+b, small)
			checkScheme(t, "a"+b+"z", small)
		}
	}
	for _, text := range []string{"@", "[", "`", "{", "A@", "Z[", "a`", "z{", "G\u00c9T", "\uff27\uff25\uff34", "G T", "G-T", "G1", "\u0130", "\u0131", "\u212a", "\u017f"} {
		checkMethod(t, text, false)
		checkScheme(t, text, false)
	}
	checkMethod(t, "get", false)
	checkMethod(t, "GeT", false)
	checkScheme(t, "HTTPS", false)
	checkScheme(t, "httpS", false)
}

func TestP21Paths(t *testing.T) {
	for _, n := range []int{1, 2, 16, 17, 63, 64, 65, 199, 200} {
		checkPath(t, "/"+strings.Repeat("p", n-1), true)
		checkPath(t, strings.Repeat("/", n), true)
		checkPath(t, strings.Repeat("p", n), false)
		checkPath(t, strings.Repeat("p", n-1)+"/", n == 1)
	}
	checkPath(t, "", false)
	for _, n := range []int{201, 202, 1024, 1025, 70000} {
		checkPath(t, "/"+strings.Repeat("p", n-1), false)
		checkPath(t, strings.Repeat("/", n), false)
	}
	for c := range 256 {
		b := string([]byte{byte(c)})
		ok := c >= 33 && c <= 126
		checkPath(t, b, c == '/')
		for _, path := range []string{"/" + b, "/" + b + "x", "/x" + b, "/" + strings.Repeat("x", 198) + b, "/" + b + strings.Repeat("x", 198)} {
			checkPath(t, path, ok)
		}
		checkPath(t, b+"/", c == '/')
		checkPath(t, b+"/x", c == '/')
	}
	for _, path := range []string{" /", "/ ", "/a b", "a/b", "/\u00e9", "/\x7f", "/\u00a0", "*", "?", "/\xc3", ""} {
		checkPath(t, path, false)
	}
	for _, path := range []string{"/", "//", "/?", "/#", "/~", "/!", "/a/../b", "/%00", "/\"\\", "/:", "/A-Z"} {
		checkPath(t, path, true)
	}
}

func TestP21Authorities(t *testing.T) {
	for _, n := range []int{0, 1, 2, 16, 17, 200, 201, 1023, 1024} {
		checkAuthority(t, strings.Repeat("a", n), true)
		checkAuthority(t, strings.Repeat("\xff", n), true)
	}
	for _, n := range []int{1025, 1026, 2048, 70000} {
		checkAuthority(t, strings.Repeat("a", n), false)
	}
	for c := range 256 {
		b := string([]byte{byte(c)})
		ok := c != 0 && c != 10 && c != 13
		checkAuthority(t, b, ok && c != 32)
		checkAuthority(t, b+"x", ok && c != 32)
		checkAuthority(t, "x"+b, ok && c != 32)
		checkAuthority(t, "x"+b+"y", ok)
		checkAuthority(t, strings.Repeat("x", 1023)+b, ok && c != 32)
		checkAuthority(t, b+strings.Repeat("x", 1023), ok && c != 32)
		checkAuthority(t, strings.Repeat("x", 1022)+b+"y", ok)
	}
	for _, text := range []string{"  ", " a ", "a  ", "  a", strings.Repeat(" ", 1024), " \t", "\t "} {
		checkAuthority(t, text, false)
	}
	for _, text := range []string{"\t", "\u00a0", "a  b", "user@host:80", ":", "\u00e9", "\x0b", "\x0c", "\u3000"} {
		checkAuthority(t, text, true)
	}
}

// checkFieldsBoth has a list of fields stand in a request and in a response, alone, ahead of and behind others.
func checkFieldsBoth(t *testing.T, list []impl.Field, ok bool) {
	t.Helper()
	lists := [][]impl.Field{list}
	if len(list) < 58 {
		lists = append(lists, append(pairsOf("p", "q"), list...), append(slices.Clone(list), aField("p", "q")), append(append(pairsOf("p", "q"), list...), aField("r", "")))
	}
	for i, list := range lists {
		for _, r := range []impl.Request{{Method: "GET", Scheme: "https", Path: "/", Fields: list}, {Method: "GET", Scheme: "https", Authority: "x", Path: "/", Fields: list}} {
			if !ok && i%2 == 0 && len(list) > 0 && strings.HasPrefix(list[0].Name, ":") {
				// At the front it may be one of those that lead.
				checkRequestFields(t, r, nil, impl.ErrBad)
				checkRequestOfAsked(t, append(leadsOf(r), list...))
				continue
			}
			checkRequest(t, r, ok)
		}
		checkResponse(t, impl.Response{Status: 200, Fields: list}, ok)
	}
}

func TestP21FieldNames(t *testing.T) {
	for c := range 256 {
		b := string([]byte{byte(c)})
		ok := c >= 33 && c <= 126 && !(c >= 65 && c <= 90)
		checkFieldsBoth(t, pairsOf(b, "v"), ok && c != ':')
		checkFieldsBoth(t, pairsOf(b+"x", "v"), ok && c != ':')
		checkFieldsBoth(t, pairsOf("x"+b, "v"), ok)
		checkFieldsBoth(t, pairsOf("x"+b+"y", ""), ok)
		checkFieldsBoth(t, pairsOf(strings.Repeat("x", 63)+b, ""), ok)
	}
	for _, n := range []int{1, 2, 63, 64} {
		checkFieldsBoth(t, pairsOf(strings.Repeat("n", n), "v"), true)
	}
	for _, n := range []int{0, 65, 66, 1000} {
		checkFieldsBoth(t, pairsOf(strings.Repeat("n", n), "v"), false)
	}
	for _, name := range []string{"connection", "keep-alive", "transfer-encoding", "upgrade"} {
		for _, value := range []string{"", "close", "x"} {
			checkFieldsBoth(t, pairsOf(name, value), false)
		}
		for _, other := range []string{name + "s", name + "-", name + "2", "x" + name, "x-" + name, name[1:], name[:len(name)-1], "!" + name, name + ":", name + name} {
			checkFieldsBoth(t, pairsOf(other, "v"), true)
		}
		for _, other := range []string{strings.ToUpper(name), strings.ToUpper(name[:1]) + name[1:], name + " ", " " + name, ":" + name, name + "\x00"} {
			checkFieldsBoth(t, pairsOf(other, "v"), false)
		}
	}
	for _, name := range []string{"te", "host", "proxy-connection", "trailer", "cookie", "priority", "content-type", "a:b", "b:"} {
		checkFieldsBoth(t, pairsOf(name, "v"), true)
	}
	for _, name := range []string{":", "::", ":x", ":other", ":protocol", ":methods", ":Method", ":path2", ":statu"} {
		checkFieldsBoth(t, pairsOf(name, "v"), false)
		refusesRequestOf(t, append(leadsOf(leastRequest()), aField(name, "v")), impl.ErrMessage)
		refusesResponseOf(t, pairsOf(":status", "200", name, "v"), impl.ErrMessage)
		refusesResponseOf(t, pairsOf(name, "v", ":status", "200"), impl.ErrMessage)
	}
}

func TestP21FieldValues(t *testing.T) {
	for c := range 256 {
		b := string([]byte{byte(c)})
		ok := c != 0 && c != 10 && c != 13
		for _, value := range []string{b, b + "x", "x" + b, b + strings.Repeat("x", 1023), strings.Repeat("x", 1023) + b} {
			checkFieldsBoth(t, pairsOf("n", value), ok && c != 32)
		}
		checkFieldsBoth(t, pairsOf("n", "x"+b+"y"), ok)
	}
	for _, n := range []int{0, 1, 1023, 1024} {
		checkFieldsBoth(t, pairsOf("n", strings.Repeat("v", n)), true)
	}
	for _, n := range []int{1025, 1026, 4000} {
		checkFieldsBoth(t, pairsOf("n", strings.Repeat("v", n)), false)
	}
	for _, value := range []string{"  ", " v ", "v  ", "  v", strings.Repeat(" ", 1024), " \t", "\t "} {
		checkFieldsBoth(t, pairsOf("n", value), false)
	}
	for _, value := range []string{"a b", "a  b", "\t", "\tv\t", "\u00a0", "\u00a0v\u00a0", "\x0bv", "\x7f"} {
		checkFieldsBoth(t, pairsOf("n", value), true)
	}
}

func TestP21Lengths(t *testing.T) {
	for _, value := range []string{"0", "1", "007", "999999999", "000000000"} {
		checkFieldsBoth(t, []impl.Field{aLength(value)}, true)
	}
	for _, value := range []string{"", "x", "-1", "+1", "1 2", "1000000000", "0000000000", "1a"} {
		checkFieldsBoth(t, []impl.Field{aLength(value)}, false)
	}
	checkFieldsBoth(t, []impl.Field{aLength("1"), aLength("1")}, false)
	checkFieldsBoth(t, []impl.Field{aLength("1"), aLength("2")}, false)
	checkFieldsBoth(t, []impl.Field{aLength("1"), aField("a", ""), aLength("1")}, false)
}

func TestP21Counts(t *testing.T) {
	for n := range 70 {
		checkFieldsBoth(t, fieldsOf(n), n <= 60)
		if n > 0 {
			checkFieldsBoth(t, append(fieldsOf(n-1), aLength("7")), n <= 60)
			checkFieldsBoth(t, append(fieldsOf(n-1), aField("upgrade", "")), false)
		}
	}
	checkFieldsBoth(t, fieldsOf(4096), false)
	checkFieldsBoth(t, fieldsOf(4097), false)
	for _, n := range []int{65, 66, 200, 4096, 4097} {
		for _, list := range [][]impl.Field{make([]impl.Field, n), fieldsOf(n), append(leadsOf(plainRequest()), fieldsOf(n-4)...), append(pairsOf(":status", "200"), fieldsOf(n-1)...)} {
			refusesRequestOf(t, list, impl.ErrLong)
			refusesResponseOf(t, list, impl.ErrLong)
		}
	}
	for _, list := range [][]impl.Field{nil, {}, make([]impl.Field, 1), make([]impl.Field, 64), fieldsOf(1), fieldsOf(60), fieldsOf(64)} {
		refusesRequestOf(t, list, impl.ErrMessage)
		refusesResponseOf(t, list, impl.ErrMessage)
	}
	// With or without an authority, no more than 60 stand behind.
	for n, ok := range map[int]bool{59: true, 60: true, 61: false} {
		r := leastRequest()
		r.Fields = fieldsOf(n)
		checkRequest(t, r, ok)
		checkResponse(t, impl.Response{Status: 200, Fields: fieldsOf(n)}, ok)
	}
}

func TestP21Statuses(t *testing.T) {
	for status := -20; status <= 1100; status++ {
		checkResponse(t, impl.Response{Status: status}, inRange(status, 100, 599))
		checkResponse(t, impl.Response{Status: status, Fields: pairsOf("a", "b")}, inRange(status, 100, 599))
	}
	for _, odd := range oddInts() {
		mustEnd(t, fmt.Sprintf("a status of %d", odd), func() {
			checkResponse(t, impl.Response{Status: odd}, inRange(odd, 100, 599))
		})
	}
	for _, text := range []string{"100", "101", "199", "200", "500", "598", "599"} {
		status, _ := strconv.Atoi(text)
		checkResponseOf(t, pairsOf(":status", text), impl.Response{Status: status}, impl.OK)
		checkResponseOf(t, pairsOf(":status", text, "a", ""), impl.Response{Status: status, Fields: pairsOf("a", "")}, impl.OK)
	}
	for _, text := range []string{"", "0", "2", "20", "99", "000", "001", "099", "600", "601", "999", "0200", "2000", "1000", "00200", "00000000000000000200", "20x", "x20", "2x0", "+20", "-20", "+200", "-200", " 200", "200 ", "2 0", "2.0", "2_0", "0x1", "1e2", "200\n", "\uff12\uff10\uff10", "20/", "20:", "/00", ":00", "\x00", strings.Repeat("2", 1025)} {
		refusesResponseOf(t, pairsOf(":status", text), impl.ErrMessage)
		refusesResponseOf(t, pairsOf(":status", text, "a", "b"), impl.ErrMessage)
		checkResponseOfAsked(t, pairsOf(":status", text))
	}
}

func TestP21StatusAlone(t *testing.T) {
	for _, list := range [][]impl.Field{
		pairsOf(":status", "200", ":status", "200"), pairsOf(":status", "200", ":status", "404"), pairsOf(":status", "200", ":status", ""), pairsOf(":status", "", ":status", "200"),
		pairsOf(":status", "200", ":method", "GET"), pairsOf(":method", "GET", ":status", "200"), pairsOf(":status", "200", ":authority", "x"), pairsOf(":status", "200", ":authority", ""),
		pairsOf("a", "b", ":status", "200"), pairsOf(":status", "200", "a", "b", ":status", "200"), pairsOf(":status", "200", "a", "b", ":method", "GET"), pairsOf("a", "b"), nil,
		pairsOf("status", "200"), pairsOf(":Status", "200"), pairsOf(":statu", "200"), pairsOf(":status2", "200"), pairsOf(":", "200"), pairsOf("", "200"), pairsOf(" :status", "200"),
		leadsOf(plainRequest()), append(leadsOf(plainRequest()), aField(":status", "200")),
	} {
		refusesResponseOf(t, list, impl.ErrMessage)
		checkResponseOfAsked(t, list)
	}
	// And in a request there is none.
	for i := range 5 {
		refusesRequestOf(t, slices.Insert(leadsOf(plainRequest()), min(i, 4), aField(":status", "200")), impl.ErrMessage)
	}
}

// orders are all orders of the list.
func orders(list []impl.Field) [][]impl.Field {
	if len(list) == 0 {
		return [][]impl.Field{nil}
	}
	var all [][]impl.Field
	for i := range list {
		for _, rest := range orders(slices.Delete(slices.Clone(list), i, i+1)) {
			all = append(all, append([]impl.Field{list[i]}, rest...))
		}
	}
	return all
}

func TestP21EveryOrder(t *testing.T) {
	for _, r := range []impl.Request{plainRequest(), leastRequest(), {Method: "GET", Scheme: "https", Path: "/", Fields: fieldsOf(60)}} {
		leads := leadsOf(r)
		for _, front := range orders(leads) {
			checkRequestOf(t, slices.Concat(front, r.Fields), r, impl.OK)
			for i := range front {
				// One that is missing; one that comes twice, alike or not; one that comes behind a plain one.
				without := slices.Delete(slices.Clone(front), i, i+1)
				if front[i].Name == ":authority" {
					other := r
					other.Authority = ""
					checkRequestOf(t, slices.Concat(without, r.Fields), other, impl.OK)
				} else {
					refusesRequestOf(t, slices.Concat(without, r.Fields), impl.ErrMessage)
				}
				refusesRequestOf(t, slices.Concat(without, pairsOf("a", "b", front[i].Name, front[i].Value)), impl.ErrMessage)
				refusesRequestOf(t, slices.Concat(front, pairsOf("a", "b", front[i].Name, front[i].Value)), impl.ErrMessage)
				for at := range len(front) + 1 {
					for _, value := range []string{front[i].Value, "", "x", "X", "/"} {
						refusesRequestOf(t, slices.Concat(front[:at], pairsOf(front[i].Name, value), front[at:]), impl.ErrMessage)
					}
				}
				for _, name := range []string{":other", ":", ":Path", "x", ""} {
					changed := slices.Clone(front)
					changed[i].Name = name
					if name == "x" && front[i].Name == ":authority" && i == len(front)-1 {
						other := r
						other.Authority, other.Fields = "", append(pairsOf("x", front[i].Value), r.Fields...)
						checkRequestOf(t, slices.Concat(changed, r.Fields), other, impl.OK)
						continue
					}
					refusesRequestOf(t, slices.Concat(changed, r.Fields), impl.ErrMessage)
				}
				empty := slices.Clone(front)
				empty[i].Value = ""
				refusesRequestOf(t, slices.Concat(empty, r.Fields), impl.ErrMessage)
			}
		}
	}
}

func TestP21EmptyAuthority(t *testing.T) {
	r := leastRequest()
	leads := leadsOf(r)
	for at := range len(leads) + 1 {
		refusesRequestOf(t, slices.Concat(leads[:at], pairsOf(":authority", ""), leads[at:]), impl.ErrMessage)
		refusesRequestOf(t, slices.Concat(leads[:at], pairsOf(":authority", "", ":authority", "x"), leads[at:]), impl.ErrMessage)
		refusesRequestOf(t, slices.Concat(leads[:at], pairsOf(":authority", "x", ":authority", ""), leads[at:]), impl.ErrMessage)
		refusesRequestOf(t, slices.Concat(leads[:at], pairsOf(":authority", " "), leads[at:]), impl.ErrMessage)
		r.Authority = "x"
		checkRequestOf(t, slices.Concat(leads[:at], pairsOf(":authority", "x"), leads[at:]), r, impl.OK)
	}
}

// drawnText is one of a few, now and then with a byte changed.
func drawnText(more *numbers, texts ...string) string {
	b := []byte(texts[more.below(len(texts))])
	if more.below(12) == 0 && len(b) > 0 {
		b[more.below(len(b))] = []byte{0, 9, 10, 13, 31, 32, 33, 47, 48, 57, 58, 64, 65, 90, 91, 96, 97, 122, 123, 126, 127, 128, 255}[more.below(23)]
	}
	return string(b)
}

func drawnPlain(more *numbers) impl.Field {
	f := aField(drawnText(more, "a", "b", "x-y", "cookie", "content-type", "date"), drawnText(more, "", "1", "v w", "text/plain", "\tq\xff"))
	switch more.below(40) {
	case 0, 1:
		f = aLength(drawnText(more, "0", "12", "999999999", "007"))
	case 2:
		f.Name = drawnText(more, "connection", "keep-alive", "transfer-encoding", "upgrade", "connections", ":x", ":path")
	}
	return f
}

func drawnPlains(more *numbers) []impl.Field {
	count := more.below(6)
	if more.below(10) == 0 {
		count = 56 + more.below(12)
	}
	var list []impl.Field
	for range count {
		if f := drawnPlain(more); count < 10 || plainAsked(f) && f.Name != "content-length" {
			list = append(list, f)
		}
	}
	return list
}

func drawnRequest(more *numbers) impl.Request {
	return impl.Request{
		Method:    drawnText(more, "GET", "POST", "DELETE", "ABCDEFGHIJKLMNOP"),
		Scheme:    drawnText(more, "https", "http", "abcdefghijklmnop"),
		Authority: drawnText(more, "", "a.example", "x y"),
		Path:      drawnText(more, "/", "/a/b", "/p?q=1", "/"+strings.Repeat("p", 199)),
		Fields:    drawnPlains(more),
	}
}

func TestP21RequestsDrawn(t *testing.T) {
	more := numbers(23)
	valid := map[bool]int{}
	for range 20000 {
		r := drawnRequest(&more)
		list, code := requestFieldsAsked(r)
		checkRequestFields(t, r, list, code)
		valid[code == impl.OK]++
		if code == impl.OK {
			got, _ := impl.RequestFields(r)
			checkRequestOf(t, got, r, impl.OK)
		}
		response := impl.Response{Status: near(&more, 100, 200, 404, 599), Fields: r.Fields}
		list, code = responseFieldsAsked(response)
		checkResponseFields(t, response, list, code)
		if code == impl.OK {
			got, _ := impl.ResponseFields(response)
			checkResponseOf(t, got, response, impl.OK)
		}
	}
	if valid[true] < 5000 || valid[false] < 3000 {
		t.Errorf("valid and not: %v", valid)
	}
}

// Fields that are mixed up, doubled, left out and changed.
func TestP21FieldsDrawn(t *testing.T) {
	more := numbers(24)
	codes, statusCodes := map[int]int{}, map[int]int{}
	for range 40000 {
		r := drawnRequest(&more)
		front := leadsOf(r)
		if more.below(2) == 0 {
			front = pairsOf(":status", drawnText(&more, "200", "100", "599", "404"))
		}
		shuffle(&more, front)
		list := slices.Concat(front, r.Fields)
		for more.below(4) == 0 {
			i := more.below(len(list) + 1)
			switch {
			case more.below(2) == 0 || i == len(list):
				list = slices.Insert(list, i, append(leadsOf(drawnRequest(&more)), aField(":status", "200"), drawnPlain(&more))[more.below(5)])
			default:
				list = slices.Delete(list, i, i+1)
			}
		}
		codes[checkRequestOfAsked(t, list)]++
		statusCodes[checkResponseOfAsked(t, list)]++
		checkLengthAsked(t, list)
	}
	if min(codes[impl.OK], codes[impl.ErrMessage], statusCodes[impl.OK], statusCodes[impl.ErrMessage]) < 3000 || min(codes[impl.ErrLong], statusCodes[impl.ErrLong]) < 100 {
		t.Errorf("codes were met so often: %v, %v", codes, statusCodes)
	}
}

// A list with one that may not be there is refused, wherever that one stands.
func TestP21OneThatMayNotBe(t *testing.T) {
	wrong := pairsOf("connection", "close", "keep-alive", "1", "transfer-encoding", "chunked", "upgrade", "x", "Accept", "v", "", "v", "a b", "v", "n", " v", "n", "v ", "n", "v\n", "n", "\x00", "n", "\r", "content-length", "x", ":x", "y", strings.Repeat("n", 65), "", "n", strings.Repeat("v", 1025))
	for _, r := range []impl.Request{plainRequest(), leastRequest()} {
		for _, f := range wrong {
			list := append(leadsOf(r), r.Fields...)
			for at := range len(list) + 1 {
				refusesRequestOf(t, slices.Insert(slices.Clone(list), at, f), impl.ErrMessage)
			}
			for at := range len(r.Fields) + 1 {
				changed := r
				changed.Fields = slices.Insert(slices.Clone(r.Fields), at, f)
				checkRequestFields(t, changed, nil, impl.ErrBad)
				checkResponseFields(t, impl.Response{Status: 200, Fields: changed.Fields}, nil, impl.ErrBad)
				refusesResponseOf(t, append(pairsOf(":status", "200"), changed.Fields...), impl.ErrMessage)
			}
			refusesResponseOf(t, append([]impl.Field{f}, pairsOf(":status", "200")...), impl.ErrMessage)
		}
	}
}

// Through a section, with a table that grows and without one.
func TestP21ThroughSections(t *testing.T) {
	more := numbers(25)
	for _, limit := range []int{0, 100, 400, 4096} {
		e := impl.Encoder{Table: tableOf(limit, limit, 0), Blocked: 64}
		d := impl.Decoder{Table: tableOf(limit, limit, 0)}
		carry := func(stream int, list []impl.Field) []impl.Field {
			behind, instr, section, code := impl.EncodeSection(e, stream, list)
			if code != impl.OK {
				t.Fatalf("EncodeSection: %d of %s", code, toldList(list))
			}
			decoder, _, code := impl.ReadInstr(d, instr)
			if code != impl.OK {
				t.Fatalf("ReadInstr: %d", code)
			}
			came, need, code := impl.DecodeSection(decoder, section)
			if code != impl.OK {
				t.Fatalf("DecodeSection: %d", code)
			}
			if need > 0 {
				behind, _, _ = impl.ReadAcks(behind, wasRead(stream))
			}
			e, d = behind, decoder
			return came
		}
		for i := range 300 {
			r := drawnRequest(&more)
			if i == 0 {
				r = plainRequest()
			}
			list, code := impl.RequestFields(r)
			if code != impl.OK {
				continue
			}
			checkRequestOf(t, carry(4*i, list), r, impl.OK)
			response := impl.Response{Status: 100 + more.below(500), Fields: r.Fields}
			list, _ = impl.ResponseFields(response)
			checkResponseOf(t, carry(4*i, list), response, impl.OK)
		}
	}
}

// Two faults at once: a list that is too long comes ahead of all that is wrong in it.
func TestMessageFaultsInOrder(t *testing.T) {
	long := slices.Repeat(pairsOf("A", "\n", "content-length", "x"), 33)
	checkLength(t, long, 0, impl.ErrLong)
	refusesRequestOf(t, long, impl.ErrLong)
	refusesResponseOf(t, long, impl.ErrLong)
	checkRequestFields(t, impl.Request{Fields: long}, nil, impl.ErrBad)
	checkResponseFields(t, impl.Response{Fields: long}, nil, impl.ErrBad)
	r := plainRequest()
	r.Fields = fieldsOf(5000)
	checkRequestFields(t, r, nil, impl.ErrBad)
	checkResponseFields(t, impl.Response{Status: 200, Fields: fieldsOf(5000)}, nil, impl.ErrBad)
	checkResponseFields(t, impl.Response{Status: math.MinInt}, nil, impl.ErrBad)
	checkRequestFields(t, impl.Request{}, nil, impl.ErrBad)
	checkResponseFields(t, impl.Response{}, nil, impl.ErrBad)
}
