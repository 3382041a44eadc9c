package tests

import (
	"fmt"
	"reflect"
	"slices"
	"strings"
	"testing"

	"loop.example/g00012/impl"
)

// askedRun is a run of operations as the program does it, and as a chapter asks for it.
type askedRun[Op, Obs any] struct {
	name  string
	does  func(ops []Op) ([]Obs, int)
	asked func() func(op Op) Obs // one who knows of no operation yet
	same  func(a, b Obs) bool
}

func toldEach[Op any](ops []Op) string {
	var lines []string
	for _, op := range ops {
		lines = append(lines, fmt.Sprintf("%+v", op))
	}
	return strings.Join(lines, "\n  ")
}

// want is what is to be answered.
func (r askedRun[Op, Obs]) want(ops []Op) []Obs {
	run := r.asked()
	var want []Obs
	for _, op := range ops {
		want = append(want, run(op))
	}
	return want
}

// answers is what is answered to a run that is not refused.
func (r askedRun[Op, Obs]) answers(t *testing.T, ops []Op) []Obs {
	t.Helper()
	got, code := r.does(ops)
	if code != impl.OK || len(got) != len(ops) {
		t.Fatalf("%s of %d operations = %d answers, code %d", r.name, len(ops), len(got), code)
	}
	return got
}

func (r askedRun[Op, Obs]) check(t *testing.T, ops []Op, want []Obs) {
	t.Helper()
	for i, got := range r.answers(t, ops) {
		if !r.same(got, want[i]) {
			t.Errorf("%s, answer %d = %+v, want %+v, of\n  %s", r.name, i, got, want[i], toldEach(ops[:i+1]))
			return
		}
	}
}

func (r askedRun[Op, Obs]) checkAsked(t *testing.T, ops []Op) {
	t.Helper()
	r.check(t, ops, r.want(ops))
}

// checkEach runs each beginning too: no answer hangs on what comes behind it.
func (r askedRun[Op, Obs]) checkEach(t *testing.T, ops []Op, want []Obs) {
	t.Helper()
	for n := range len(ops) + 1 {
		r.check(t, ops[:n], want[:n])
	}
	r.checkAsked(t, ops)
}

func (r askedRun[Op, Obs]) refuses(t *testing.T, ops []Op, code int) {
	t.Helper()
	if got, gotCode := r.does(ops); gotCode != code || len(got) != 0 {
		t.Errorf("%s of %d operations = %d answers, code %d, want code %d alone", r.name, len(ops), len(got), gotCode, code)
	}
}

// fencedRun is a run within a longer list, each of its byte lists within a longer one.
type fencedRun[Op any] struct {
	list, whole, before []Op
	listsOf             func(*Op) []*[]byte
	lists               []fenced[byte]
}

func fenceRun[Op any](ops []Op, mark Op, listsOf func(*Op) []*[]byte) fencedRun[Op] {
	f := fencedRun[Op]{whole: []Op{mark}, listsOf: listsOf}
	for _, op := range ops {
		for _, list := range listsOf(&op) {
			f.lists = append(f.lists, amid(*list, 0xee))
			*list = f.lists[len(f.lists)-1].list
		}
		f.whole = append(f.whole, op)
	}
	f.whole = append(f.whole, mark, mark)
	f.before = slices.Clone(f.whole)
	f.list = f.whole[1 : 1+len(ops)]
	return f
}

// sameList tells whether both are the same place in memory.
func sameList(a, b []byte) bool {
	return len(a) == len(b) && cap(a) == cap(b) && (cap(a) == 0 || &a[:1][0] == &b[:1][0])
}

func (f fencedRun[Op]) check(t *testing.T, call string) {
	t.Helper()
	for i, op := range f.whole {
		was := f.before[i]
		same := reflect.DeepEqual(op, was)
		before := f.listsOf(&was)
		for j, list := range f.listsOf(&op) {
			same = same && sameList(*list, *before[j])
		}
		if !same {
			t.Errorf("%s wrote into its operations or behind their end", call)
		}
	}
	for _, list := range f.lists {
		list.check(t, call)
	}
}

// checkKeepsNothing asks several times: all that is asked answers the same behind all else.
func checkKeepsNothing(t *testing.T, ask func() string) {
	t.Helper()
	first := ask()
	for range 5 {
		if again := ask(); again != first {
			t.Errorf("first %s, then %s", first, again)
		}
	}
}
