package tests

import (
	"fmt"
	"math"
	"slices"
	"strings"
	"testing"

	"loop.example/g00012/impl"
)

func TestMatchWrittenOut(t *testing.T) {
	routes := []impl.Route{
		aRoute("GET", "/"), aRoute("GET", "/a"), aRoute("GET", "/a/"), aRoute("GET", "/a/b"), aRoute("GET", "//"), aRoute("GET", "//a"),
		aRoute("GET", "/x/*"), aRoute("GET", "/*/y/*"), aRoute("GET", "/*/z"), aRoute("GET", "/a*"), aRoute("GET", "/*b"), aRoute("GET", "/**"), aRoute("GET", "/a//b"), aRoute("POST", "/p"),
	}
	for _, c := range []struct {
		path string
		at   int
		part string
	}{
		{"/", 0, ""}, {"/a", 1, ""}, {"/a/", 2, ""}, {"/a/b", 3, ""}, {"//", 4, ""}, {"//a", 5, ""},
		{"/x/1", 6, "1"}, {"/x/*", 6, "*"}, {"/x/a*", 6, "a*"}, {"/x/x", 6, "x"},
		{"/1/y/2", 7, "2"}, {"/*/y/2", 7, "2"}, {"/y/y/y", 7, "y"}, {"/x/y/z", 7, "z"},
		{"/1/z", 8, "1"}, {"/*/z", 8, "*"}, {"/z/z", 8, "z"},
		// A star within a piece stands for itself.
		{"/a*", 9, ""}, {"/*b", 10, ""}, {"/**", 11, ""}, {"/a//b", 12, ""},
		// A question mark and what stands behind it count for nothing.
		{"/?", 0, ""}, {"/??", 0, ""}, {"/?a", 0, ""}, {"/?/a", 0, ""}, {"/a?", 1, ""}, {"/a?/b", 1, ""}, {"/a/?b", 2, ""}, {"/a/b?c?d", 3, ""}, {"/x/1?2", 6, "1"}, {"/x/1?/2", 6, "1"}, {"/x/1?*", 6, "1"}, {"/1/z?y", 8, "1"}, {"//?//", 4, ""},
	} {
		checkMatch(t, routes, "GET", c.path, c.at, c.part, impl.OK)
		checkMatchAsked(t, routes, "GET", c.path)
	}
	for _, path := range []string{"/b", "/A", "/a/b/", "/a/b/c", "///", "//b", "/x", "/x/", "/x?/1", "/x/?1", "/x/1/", "/x//1", "//y/2", "/1/y/", "/1/y", "//z", "/1/2/z", "/aa", "/ab", "/***", "/a/*b", "/*", "/a/%62", "/a%2fb", "/a//", "/a//b/", "/a///b"} {
		refusesMatch(t, routes, "GET", path, impl.ErrRoute)
		refusesMatch(t, routes, "POST", path, impl.ErrRoute)
	}
	for _, path := range []string{"/", "/a", "//", "/x/1", "/1/y/2", "/a*", "/a?q", "/*/z"} {
		refusesMatch(t, routes, "POST", path, impl.ErrPlace)
		refusesMatch(t, routes, "GE", path, impl.ErrPlace)
		refusesMatch(t, routes, "GETS", path, impl.ErrPlace)
	}
	refusesMatch(t, routes, "GET", "/p", impl.ErrPlace)
	checkMatch(t, routes, "POST", "/p", 13, "", impl.OK)
}

// Each path against each route, of pieces that are empty, a star, or with one.
func TestMatchEveryPathAndRoute(t *testing.T) {
	pieces := []string{"", "a", "*", "a*", "**"}
	paths := []string{}
	for _, a := range pieces {
		paths = append(paths, "/"+a)
		for _, b := range pieces {
			paths = append(paths, "/"+a+"/"+b)
			for _, c := range pieces {
				paths = append(paths, "/"+a+"/"+b+"/"+c)
			}
		}
	}
	met := map[int]int{}
	for _, route := range paths {
		for _, path := range paths {
			for _, method := range []string{"GET", "PUT"} {
				met[checkMatchAsked(t, []impl.Route{aRoute("GET", route)}, method, path)]++
			}
			checkMatchAsked(t, []impl.Route{aRoute("GET", "/a"), aRoute("PUT", "/*/*"), aRoute("GET", route), aRoute("PUT", route), aRoute("GET", "/*/a")}, "PUT", path+"?"+route)
		}
	}
	if len(met) != 3 {
		t.Errorf("codes met: %v", met)
	}
}

// Of several routes that fit the first of the method counts, whatever stands between.
func TestMatchTheFirst(t *testing.T) {
	fits := []impl.Route{aRoute("GET", "/a/b"), aRoute("GET", "/*/b"), aRoute("GET", "/a/*"), aRoute("GET", "/*/*"), aRoute("PUT", "/a/b"), aRoute("PUT", "/*/*")}
	parts := map[string]string{"/a/b": "", "/*/b": "a", "/a/*": "b", "/*/*": "b"}
	more := numbers(1)
	for range 400 {
		routes := slices.Clone(fits)
		for i := range routes {
			j := more.below(i + 1)
			routes[i], routes[j] = routes[j], routes[i]
		}
		routes = append(routes[:1+more.below(6)], aRoute("GET", "/b"), aRoute("DELETE", "/a/b"))
		for _, method := range []string{"GET", "PUT"} {
			at := slices.IndexFunc(routes[:len(routes)-2], func(r impl.Route) bool { return r.Method == method })
			if at < 0 {
				refusesMatch(t, routes, method, "/a/b", impl.ErrPlace)
				continue
			}
			checkMatch(t, routes, method, "/a/b", at, parts[routes[at].Path], impl.OK)
		}
		checkMatchAsked(t, routes, "GET", "/c/b")
		checkMatchAsked(t, routes, "PUT", "/a/c")
		checkMatchAsked(t, routes, "DELETE", "/a/b")
	}
	same := slices.Repeat([]impl.Route{aRoute("GET", "/")}, 16)
	checkMatch(t, same, "GET", "/", 0, "", impl.OK)
	same[0].Method, same[1].Method = "PUT", "GETS"
	checkMatch(t, same, "GET", "/", 2, "", impl.OK)
	checkMatch(t, same, "PUT", "/", 0, "", impl.OK)
}

func TestMatchHowManyRoutes(t *testing.T) {
	wrong := impl.Route{}
	for _, n := range []int{0, 1, 2, 15, 16, 17, 18, 4096, 4097} {
		routes := make([]impl.Route, n)
		for i := range routes {
			routes[i] = aRoute("GET", fmt.Sprintf("/%d", i))
		}
		request := impl.Request{Method: "GET", Scheme: "https", Path: fmt.Sprintf("/%d", n-1)}
		switch {
		case n > 16:
			refusesMatch(t, routes, "GET", "/0", impl.ErrLong)
			refusesMatch(t, routes, "", "", impl.ErrLong)
			refusesAnswer(t, routes, request, nil, impl.ErrLong)
			refusesAnswer(t, routes, impl.Request{}, nil, impl.ErrLong)
			refusesAnswer(t, routes, request, zeroes(8193), impl.ErrLong)
		case n == 0:
			refusesMatch(t, routes, "GET", "/0", impl.ErrRoute)
			checkAnswer(t, nil, request, nil, impl.Response{Status: 404, Fields: pairsOf("content-length", "0")}, nil, impl.OK)
			continue
		default:
			checkMatch(t, routes, "GET", request.Path, n-1, "", impl.OK)
			checkMatchAsked(t, routes, "GET", request.Path)
			checkAnswerAsked(t, routes, request, nil)
		}
		for _, at := range []int{0, n / 2, n - 1} {
			spoilt := slices.Clone(routes)
			spoilt[at] = wrong
			code := impl.ErrBad
			if n > 16 {
				code = impl.ErrLong
			}
			refusesMatch(t, spoilt, "GET", "/0", code)
			refusesAnswer(t, spoilt, request, nil, code)
			checkTalk(t, impl.TalkSetup{Routes: spoilt, Piece: 1}, nil, impl.TalkOut{Code: impl.ErrBad})
		}
		want := impl.TalkOut{}
		if n > 16 {
			want.Code = impl.ErrBad
		}
		checkTalk(t, impl.TalkSetup{Routes: routes, Piece: 1}, nil, want)
	}
}

// checkRoute asks whether a route is valid in all three calls, alone and behind another one.
func checkRoute(t *testing.T, r impl.Route, ok bool) {
	t.Helper()
	if routeOKAsked(r) != ok {
		t.Errorf("a valid route? %v: %s", routeOKAsked(r), toldRoutes([]impl.Route{r}))
	}
	request := impl.Request{Method: "GET", Scheme: "https", Path: "/other"}
	for _, routes := range [][]impl.Route{{r}, {aRoute("GET", "/other"), r}, {r, aRoute("GET", "/other")}} {
		checkMatchAsked(t, routes, "GET", "/other")
		checkAnswerAsked(t, routes, request, nil)
		code := impl.OK
		if !ok {
			code = impl.ErrBad
			refusesMatch(t, routes, "GET", "/other", code)
			refusesAnswer(t, routes, request, nil, code)
		}
		checkTalk(t, impl.TalkSetup{Routes: routes, Piece: 1}, nil, impl.TalkOut{Code: code})
	}
}

func TestRoutesThatAreValid(t *testing.T) {
	for _, c := range []struct {
		method string
		ok     bool
	}{{"", false}, {"A", true}, {"Z", true}, {"GET", true}, {"ABCDEFGHIJKLMNOP", true}, {"ABCDEFGHIJKLMNOPQ", false}, {"get", false}, {"GEt", false}, {"G T", false}, {"GET ", false}, {"G@", false}, {"G[", false}, {"G?", false}, {"*", false}, {"G\x00", false}, {"\xc7ET", false}} {
		checkRoute(t, aRoute(c.method, "/"), c.ok)
		checkRoute(t, aRoute(c.method, "/a/*"), c.ok)
	}
	for _, c := range []struct {
		path string
		ok   bool
	}{
		{"", false}, {"/", true}, {"a", false}, {"*", false}, {"a/", false}, {"//", true}, {"/*", true}, {"/**", true}, {"/" + strings.Repeat("p", 198), true}, {"/" + strings.Repeat("p", 199), true}, {"/" + strings.Repeat("p", 200), false}, {strings.Repeat("/", 200), true}, {strings.Repeat("/", 201), false}, {strings.Repeat("/*", 100), true},
		{"?", false}, {"/?", false}, {"/?a", false}, {"/a?", false}, {"/a?b", false}, {"/a/?", false}, {"/a??", false}, {"?/", false},
		{"/ ", false}, {"/!", true}, {"/~", true}, {"/\x7f", false}, {"/\x80", false}, {"/\x1f", false}, {"/a b", false}, {"/\xff", false}, {"/\u00e9", false}, {" /", false},
	} {
		checkRoute(t, aRoute("GET", c.path), c.ok)
	}
	for n, ok := range map[int]bool{0: true, 1: true, 1023: true, 1024: true, 1025: false, 4096: false} {
		for kind := 1; kind <= 4; kind++ {
			checkRoute(t, impl.Route{Method: "GET", Path: "/", Kind: kind, Text: strings.Repeat("x", n)}, ok)
		}
		checkRoute(t, impl.Route{Method: "GET", Path: "/", Kind: 5, Status: 200, Text: strings.Repeat("x", n)}, ok)
	}
	// A text is any bytes: it is content, and no field's value.
	checkRoute(t, impl.Route{Method: "GET", Path: "/", Kind: 1, Text: "\x00\n\r \xff"}, true)
}

func TestRoutesKindsAndStatuses(t *testing.T) {
	kinds := append([]int{0, 1, 2, 3, 4, 5, 6, -1, 7, 9}, math.MinInt, math.MaxInt, 1<<32+1)
	statuses := []int{0, 1, -1, 99, 100, 199, 200, 201, 418, 598, 599, 600, 601, 999, math.MinInt, math.MaxInt, 1<<32 + 200}
	for _, kind := range kinds {
		for _, status := range statuses {
			ok := inRange(kind, 1, 4) && status == 0 || kind == 5 && inRange(status, 200, 599)
			checkRoute(t, impl.Route{Method: "GET", Path: "/", Kind: kind, Status: status}, ok)
		}
	}
}

func TestMatchMethodsAndPathsThatNoRequestHas(t *testing.T) {
	for _, routes := range [][]impl.Route{nil, {aRoute("GET", "/")}, someRoutes()} {
		for _, method := range []string{"", "get", "Get", "GET ", " GET", "G-T", "ABCDEFGHIJKLMNOPQ", "*", "\x00", "G\xff"} {
			refusesMatch(t, routes, method, "/", impl.ErrBad)
		}
		for _, path := range []string{"", "a", "*", "?", "?/", " /", "/ ", "/a b", "/\x7f", "/\x80", "/\n", "/?\x00", "/?a b", "/" + strings.Repeat("p", 200), "/?" + strings.Repeat("p", 199), "https://a/"} {
			refusesMatch(t, routes, "GET", path, impl.ErrBad)
		}
		checkMatchAsked(t, routes, "GET", "/?"+strings.Repeat("p", 198))
		checkMatchAsked(t, routes, "ABCDEFGHIJKLMNOP", "/")
	}
	long := "/" + strings.Repeat("p", 199)
	checkMatch(t, []impl.Route{aRoute("GET", "/"), aRoute("GET", long)}, "GET", long, 1, "", impl.OK)
	checkMatch(t, []impl.Route{aRoute("GET", "/*")}, "GET", long, 0, long[1:], impl.OK)
	checkMatch(t, []impl.Route{aRoute("GET", strings.Repeat("/*", 100))}, "GET", strings.Repeat("/z", 99)+"/y", 0, "y", impl.OK)
	refusesMatch(t, []impl.Route{aRoute("GET", strings.Repeat("/*", 100))}, "GET", strings.Repeat("/z", 99), impl.ErrRoute)
	checkMatch(t, []impl.Route{aRoute("GET", strings.Repeat("/", 200))}, "GET", strings.Repeat("/", 200), 0, "", impl.OK)
	refusesMatch(t, []impl.Route{aRoute("GET", strings.Repeat("/", 200))}, "GET", strings.Repeat("/", 199), impl.ErrRoute)
}

// Routes that branch at every piece: no walk through them takes long.
func TestMatchManyBranches(t *testing.T) {
	var routes []impl.Route
	for i := range 16 {
		path := strings.Repeat("/*", i) + strings.Repeat("/a", 100-i)
		if i == 15 {
			path = strings.Repeat("/*", 99) + "/b"
		}
		routes = append(routes, aRoute("GET", path))
	}
	checkMatchAsked(t, routes, "GET", strings.Repeat("/a", 100))
	checkMatch(t, routes, "GET", strings.Repeat("/a", 99)+"/b", 15, "a", impl.OK)
	refusesMatch(t, routes, "GET", strings.Repeat("/a", 99)+"/c", impl.ErrRoute)
	refusesMatch(t, routes, "PUT", strings.Repeat("/a", 100), impl.ErrPlace)
	// Stars in the path too: each piece goes one way, not two.
	stars := strings.Repeat("/*", 100)
	checkMatch(t, []impl.Route{aRoute("GET", stars)}, "GET", stars, 0, "*", impl.OK)
	refusesMatch(t, []impl.Route{aRoute("GET", strings.Repeat("/*", 99)+"/a")}, "GET", stars, impl.ErrRoute)
}

func drawnRoutePath(more *numbers) string {
	path := ""
	for range 1 + more.below(3) {
		path += "/" + []string{"", "a", "a", "b", "*", "*", "a*"}[more.below(7)]
	}
	return path
}

func drawnRoutes(more *numbers) []impl.Route {
	var routes []impl.Route
	for range more.below(18) {
		r := impl.Route{Method: []string{"GET", "PUT", "POST"}[more.below(3)], Path: drawnRoutePath(more), Kind: 1 + more.below(5)}
		switch {
		case r.Kind == impl.RStatus:
			r.Status = 200 + more.below(400)
		case r.Kind == impl.RText:
			r.Text = strings.Repeat("t", more.below(30))
		}
		switch more.below(120) {
		case 0:
			r.Path += "?"
		case 1:
			r.Status = 7
		case 2:
			r.Kind = 6
		}
		routes = append(routes, r)
	}
	return routes
}

func TestP23MatchAndAnswerDrawn(t *testing.T) {
	more := numbers(2)
	codes, statuses := map[int]int{}, map[int]int{}
	for range 20000 {
		routes := drawnRoutes(&more)
		method, path := drawnText(&more, "GET", "PUT", "POST", "DELETE"), drawnRoutePath(&more)
		if more.below(4) == 0 {
			path += "?" + path
		}
		codes[checkMatchAsked(t, routes, method, path)]++
		r := impl.Request{Method: method, Scheme: "https", Path: path, Fields: pairsOf("a", "b")}
		statuses[checkAnswerAsked(t, routes, r, more.bytes(more.below(200)))]++
	}
	for _, code := range []int{impl.OK, impl.ErrLong, impl.ErrBad, impl.ErrPlace, impl.ErrRoute} {
		if codes[code] < 100 {
			t.Errorf("codes met: %v", codes)
		}
	}
	if statuses[200] < 1000 || statuses[404] < 1000 || statuses[405] < 1000 || len(statuses) < 200 {
		t.Errorf("statuses met: %v", statuses)
	}
}

func aRequest(method, path string) impl.Request {
	return impl.Request{Method: method, Scheme: "https", Path: path}
}

func answered(status int, content string) (impl.Response, []byte) {
	return impl.Response{Status: status, Fields: pairsOf("content-length", fmt.Sprint(len(content)))}, []byte(content)
}

func TestP23AnswersWrittenOut(t *testing.T) {
	routes := append(someRoutes(), impl.Route{Method: "GET", Path: "/part//*/x", Kind: impl.RPart}, impl.Route{Method: "GET", Path: "/nothing", Kind: impl.RPart}, impl.Route{Method: "PUT", Path: "/*", Kind: impl.REcho, Text: "not this"}, impl.Route{Method: "PUT", Path: "/five/*", Kind: impl.RStatus, Status: 599, Text: "nor this"})
	for _, c := range []struct {
		method, path, body string
		status             int
		content            string
	}{
		{"GET", "/", "", 200, "home"}, {"GET", "/", "body", 200, "home"}, {"GET", "/?x", "", 200, "home"},
		{"POST", "/echo", "", 200, ""}, {"POST", "/echo", "x", 200, "x"}, {"POST", "/echo", "a\x00b\n", 200, "a\x00b\n"},
		{"POST", "/count", "", 200, "0"}, {"POST", "/count", "123456789", 200, "9"}, {"POST", "/count", strings.Repeat("z", 10), 200, "10"}, {"POST", "/count", strings.Repeat("z", 99), 200, "99"}, {"POST", "/count", strings.Repeat("z", 100), 200, "100"}, {"POST", "/count", strings.Repeat("z", 999), 200, "999"}, {"POST", "/count", strings.Repeat("z", 1000), 200, "1000"}, {"POST", "/count", strings.Repeat("z", 8192), 200, "8192"},
		{"GET", "/part/x", "body", 200, "x"}, {"GET", "/part/*", "", 200, "*"}, {"GET", "/part/12?3", "", 200, "12"}, {"GET", "/part/", "", 404, ""}, {"GET", "/part//q/x", "", 200, "q"}, {"GET", "/part///x", "", 404, ""}, {"GET", "/nothing", "", 200, ""},
		{"DELETE", "/gone", "body", 204, ""}, {"GET", "/teapot", "", 418, ""}, {"PUT", "/five/1", "body", 599, ""}, {"PUT", "/five/", "body", 404, ""},
		{"PUT", "/", "", 405, ""}, {"GET", "/echo", "", 405, ""}, {"HEAD", "/part/1", "", 405, ""}, {"PUT", "/gone", "echo", 200, "echo"}, {"PUT", "/a/b", "", 404, ""}, {"HEAD", "/no/where", "body", 404, ""}, {"GET", "/Part/x", "", 404, ""},
		{"GET", "/long", "", 200, strings.Repeat("long ", 200)}, {"GET", "/none", "", 200, ""},
	} {
		want, content := answered(c.status, c.content)
		checkAnswer(t, routes, aRequest(c.method, c.path), []byte(c.body), want, content, impl.OK)
		checkAnswerAsked(t, routes, aRequest(c.method, c.path), []byte(c.body))
	}
	long := "/part/" + strings.Repeat("p", 194)
	want, content := answered(200, long[6:])
	checkAnswer(t, routes, aRequest("GET", long), nil, want, content, impl.OK)
}

func TestAnswerHowManyBytes(t *testing.T) {
	for _, n := range []int{0, 1, 9, 10, 99, 100, 999, 1000, 4096, 8191, 8192} {
		body := rowOf(n, 7, 251)
		want, content := answered(200, string(body))
		checkAnswer(t, someRoutes(), aRequest("POST", "/echo"), body, want, content, impl.OK)
		want, content = answered(200, fmt.Sprint(n))
		checkAnswer(t, someRoutes(), aRequest("POST", "/count"), body, want, content, impl.OK)
	}
	for _, n := range []int{8193, 8194, 65536, 65537, 1 << 20} {
		refusesAnswer(t, someRoutes(), aRequest("POST", "/echo"), zeroes(n), impl.ErrLong)
		refusesAnswer(t, nil, impl.Request{}, zeroes(n), impl.ErrLong)
		refusesAnswer(t, []impl.Route{{}}, aRequest("GET", "/"), zeroes(n), impl.ErrLong)
	}
}

// The content's length that a request tells is nothing that Answer asks, and a scheme of any kind is served.
func TestAnswerRequests(t *testing.T) {
	r := aRequest("POST", "/count")
	r.Fields = pairsOf("content-length", "5", "priority", "u=1")
	r.Scheme, r.Authority = "ftp", "a.example"
	want, content := answered(200, "2")
	checkAnswer(t, someRoutes(), r, []byte("ab"), want, content, impl.OK)
	for _, r := range []impl.Request{{}, {Method: "GET", Path: "/"}, {Scheme: "https", Path: "/"}, {Method: "GET", Scheme: "https"}, aRequest("get", "/"), aRequest("GET", "a"), aRequest("GET", "/ "), {Method: "GET", Scheme: "https", Authority: " ", Path: "/"}, {Method: "GET", Scheme: "HTTPS", Path: "/"}, {Method: "GET", Scheme: "https", Path: "/", Fields: pairsOf("A", "b")}, {Method: "GET", Scheme: "https", Path: "/", Fields: pairsOf("content-length", "x")}, {Method: "GET", Scheme: "https", Path: "/", Fields: fieldsOf(61)}, aRequest("GET", "/"+strings.Repeat("p", 200))} {
		refusesAnswer(t, someRoutes(), r, nil, impl.ErrBad)
		refusesAnswer(t, nil, r, []byte("body"), impl.ErrBad)
		refusesAnswer(t, []impl.Route{{}}, r, nil, impl.ErrBad)
	}
	checkAnswerAsked(t, someRoutes(), mostRequest(), nil)
	checkAnswerAsked(t, someRoutes(), leastRequest(), nil)
}
