package tests

import (
	"bytes"
	"fmt"
	"regexp"
	"strconv"
	"strings"
	"testing"

	"loop.example/g00012/impl"
)

// This file is a second program of routes and answers, by the chapter's words, and what holds the calls against it.

func aRoute(method, path string) impl.Route {
	return impl.Route{Method: method, Path: path, Kind: impl.RText}
}

// someRoutes are such as other tests ask, one of each kind at least.
func someRoutes() []impl.Route {
	return []impl.Route{
		{Method: "GET", Path: "/", Kind: impl.RText, Text: "home"},
		{Method: "POST", Path: "/echo", Kind: impl.REcho},
		{Method: "POST", Path: "/count", Kind: impl.RCount},
		{Method: "GET", Path: "/part/*", Kind: impl.RPart},
		{Method: "DELETE", Path: "/gone", Kind: impl.RStatus, Status: 204},
		{Method: "GET", Path: "/long", Kind: impl.RText, Text: strings.Repeat("long ", 200)},
		{Method: "GET", Path: "/none", Kind: impl.RText},
		{Method: "GET", Path: "/teapot", Kind: impl.RStatus, Status: 418},
		{Method: "POST", Path: "/", Kind: impl.REcho},
	}
}

func routeOKAsked(r impl.Route) bool {
	statusOK := r.Status == 0
	if r.Kind == 5 {
		statusOK = inRange(r.Status, 200, 599)
	}
	return methodAsked.MatchString(r.Method) && pathAsked.MatchString(r.Path) && !strings.Contains(r.Path, "?") &&
		len(r.Text) <= 1024 && inRange(r.Kind, 1, 5) && statusOK
}

var routePatterns = map[string]*regexp.Regexp{}

// routePattern is a route's path as a pattern of paths, with what a star stands for in brackets.
func routePattern(path string) *regexp.Regexp {
	if known, ok := routePatterns[path]; ok {
		return known
	}
	var pieces []string
	for _, piece := range strings.Split(path[1:], "/") {
		if piece == "*" {
			pieces = append(pieces, "([^/]+)")
		} else {
			pieces = append(pieces, regexp.QuoteMeta(piece))
		}
	}
	routePatterns[path] = regexp.MustCompile("^/" + strings.Join(pieces, "/") + "$")
	return routePatterns[path]
}

func matchAsked(routes []impl.Route, method, path string) (int, string, int) {
	if len(routes) > 16 {
		return 0, "", impl.ErrLong
	}
	if !allOf(routes, routeOKAsked) || !methodAsked.MatchString(method) || !pathAsked.MatchString(path) {
		return 0, "", impl.ErrBad
	}
	if at := strings.IndexByte(path, '?'); at >= 0 {
		path = path[:at]
	}
	code := impl.ErrRoute
	for i, r := range routes {
		found := routePattern(r.Path).FindStringSubmatch(path)
		switch {
		case found == nil:
		case r.Method != method:
			code = impl.ErrPlace
		case len(found) > 1:
			return i, found[len(found)-1], impl.OK
		default:
			return i, "", impl.OK
		}
	}
	return 0, "", code
}

func answerAsked(routes []impl.Route, r impl.Request, body []byte) (impl.Response, []byte, int) {
	if len(routes) > 16 || len(body) > 8192 {
		return impl.Response{}, nil, impl.ErrLong
	}
	if !allOf(routes, routeOKAsked) || !requestOKAsked(r) {
		return impl.Response{}, nil, impl.ErrBad
	}
	at, part, code := matchAsked(routes, r.Method, r.Path)
	status, content := 200, []byte(nil)
	switch {
	case code == impl.ErrRoute:
		status = 404
	case code == impl.ErrPlace:
		status = 405
	case routes[at].Kind == impl.RText:
		content = []byte(routes[at].Text)
	case routes[at].Kind == impl.REcho:
		content = body
	case routes[at].Kind == impl.RCount:
		content = fmt.Append(nil, len(body))
	case routes[at].Kind == impl.RPart:
		content = []byte(part)
	default:
		status = routes[at].Status
	}
	return impl.Response{Status: status, Fields: pairsOf("content-length", strconv.Itoa(len(content)))}, content, impl.OK
}

func toldRoutes(routes []impl.Route) string {
	var lines []string
	for _, r := range routes[:min(len(routes), 20)] {
		lines = append(lines, fmt.Sprintf("{%.20q %.40q, %d of Text, kind %d, %d}", r.Method, r.Path, len(r.Text), r.Kind, r.Status))
	}
	return fmt.Sprintf("%d routes: %s", len(routes), strings.Join(lines, " "))
}

func checkMatch(t *testing.T, routes []impl.Route, method, path string, at int, part string, code int) {
	t.Helper()
	gotAt, gotPart, gotCode := impl.Match(routes, method, path)
	if gotAt != at || gotPart != part || gotCode != code {
		t.Errorf("Match(%s, %.20q, %.60q) = %d %q %d, want %d %q %d", toldRoutes(routes), method, path, gotAt, gotPart, gotCode, at, part, code)
	}
}

func refusesMatch(t *testing.T, routes []impl.Route, method, path string, code int) {
	t.Helper()
	checkMatch(t, routes, method, path, 0, "", code)
	checkMatchAsked(t, routes, method, path)
}

func checkMatchAsked(t *testing.T, routes []impl.Route, method, path string) int {
	t.Helper()
	at, part, code := matchAsked(routes, method, path)
	checkMatch(t, routes, method, path, at, part, code)
	return code
}

func checkAnswer(t *testing.T, routes []impl.Route, r impl.Request, body []byte, want impl.Response, content []byte, code int) {
	t.Helper()
	got, gotContent, gotCode := impl.Answer(routes, r, body)
	if !sameResponse(got, want) || !bytes.Equal(gotContent, content) || gotCode != code {
		t.Errorf("Answer(%s, %s, %d bytes) = %s, %d bytes %.40q.., %d, want %s, %d bytes %.40q.., %d", toldRoutes(routes), toldRequest(r), len(body),
			toldResponse(got), len(gotContent), gotContent, gotCode, toldResponse(want), len(content), content, code)
	}
}

func refusesAnswer(t *testing.T, routes []impl.Route, r impl.Request, body []byte, code int) {
	t.Helper()
	checkAnswer(t, routes, r, body, impl.Response{}, nil, code)
	checkAnswerAsked(t, routes, r, body)
}

func checkAnswerAsked(t *testing.T, routes []impl.Route, r impl.Request, body []byte) int {
	t.Helper()
	want, content, code := answerAsked(routes, r, body)
	checkAnswer(t, routes, r, body, want, content, code)
	return want.Status
}
