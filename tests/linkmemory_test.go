package tests

import (
	"fmt"
	"math"
	"reflect"
	"runtime"
	"slices"
	"strings"
	"sync"
	"testing"

	"loop.example/g00012/impl"
)

// fencedSetup is a setup each of whose lists lies within a longer one.
type fencedSetup struct {
	setup    impl.LinkSetup
	bytes    []fenced[byte]
	versions []fenced[int]
	names    []fenced[string]
}

func fenceSetup(s impl.LinkSetup) *fencedSetup {
	f := &fencedSetup{setup: s}
	for _, list := range []*[]byte{&f.setup.Shared, &f.setup.Seed, &f.setup.Client.Origin, &f.setup.Client.Token, &f.setup.Client.First, &f.setup.Server.Origin, &f.setup.Server.Token, &f.setup.Server.First} {
		f.bytes = append(f.bytes, amid(*list, 0xee))
		*list = f.bytes[len(f.bytes)-1].list
	}
	for _, list := range []*[]int{&f.setup.Versions, &f.setup.ServerVersions} {
		f.versions = append(f.versions, amid(*list, 77))
		*list = f.versions[len(f.versions)-1].list
	}
	for _, list := range []*[]string{&f.setup.Names, &f.setup.ServerNames} {
		f.names = append(f.names, amid(*list, "mark"))
		*list = f.names[len(f.names)-1].list
	}
	return f
}

func (f *fencedSetup) check(t *testing.T) {
	t.Helper()
	for _, list := range f.bytes {
		list.check(t, "LinkRun")
	}
	for _, list := range f.versions {
		list.check(t, "LinkRun")
	}
	for _, list := range f.names {
		list.check(t, "LinkRun")
	}
}

func fenceLink(ops []impl.LinkOp) fencedRun[impl.LinkOp] {
	mark := impl.LinkOp{Kind: 9, Side: 1, N: 3, Data: []byte("mark")}
	return fenceRun(ops, mark, func(op *impl.LinkOp) []*[]byte { return []*[]byte{&op.Data} })
}

// linkRuns are such as do all kinds of things.
func linkRuns() []struct {
	setup impl.LinkSetup
	ops   []impl.LinkOp
} {
	var list []struct {
		setup impl.LinkSetup
		ops   []impl.LinkOp
	}
	add := func(s impl.LinkSetup, ops ...impl.LinkOp) {
		list = append(list, struct {
			setup impl.LinkSetup
			ops   []impl.LinkOp
		}{s, ops})
	}
	talk := []impl.LinkOp{
		linkCalm(3), linkOpen(0), linkOpenOneWay(1), linkWrite(0, 0, "to be read"), linkLast(1, 3, strings.Repeat("z", 5000)), linkCalm(9), linkRead(1, 0, 4), linkRead(0, 3, 3000), linkRead(1, 0, 9), linkRead(0, 3, 3000),
		linkUpdate(0), linkRebind(), linkWrite(1, 0, "back"), linkTick(3000), linkCalm(9), linkRead(0, 0, 9), linkStop(0, 0, 7), linkReset(0, 0, 8), linkCalm(9), linkRead(1, 0, 9), linkSpoil(9, 9, 9), linkLose(), linkTick(5000000), linkCalm(9), linkClose(1, 5), linkCalm(2), {Kind: 99, Data: []byte("none")}, linkWrite(0, 0, "too late"),
	}
	model := wideLink()
	model.Cc = impl.CcModel
	add(plainLink())
	add(plainLink(), talk...)
	add(model, talk...)
	add(retrySetup(), talk...)
	add(withVersions([]int{7, 1}, []int{2, 1}), talk...)
	add(withNames([]string{"a"}, []string{"z"}), talk...)
	add(impl.LinkSetup{}, talk...)
	add(plainLink(), slices.Repeat(talk, 10)...)
	for seed := range 6 {
		more := numbers(60000 + seed)
		s := drawnLinkSetup(&more)
		add(s, drawnLink(&more, s, drawnWish(&more), 100)...)
	}
	return list
}

// Nothing is written into an argument nor behind its end, and what is done to an answer changes no argument and no later answer.
func TestP1LinkMemory(t *testing.T) {
	for i, run := range linkRuns() {
		setup, ops := fenceSetup(run.setup), fenceLink(run.ops)
		want := impl.LinkRun(setup.setup, ops.list)
		got := impl.LinkRun(setup.setup, ops.list)
		setup.check(t)
		ops.check(t, "LinkRun")
		if !sameOut(got, want) {
			t.Errorf("run %d answers another time\n%s", i, toldLink(run.setup, run.ops, got, want))
		}
		for _, obs := range got.Obs {
			data := obs.Data[:cap(obs.Data)]
			for j := range data {
				data[j] ^= 0xff
			}
		}
		setup.check(t)
		ops.check(t, "LinkRun")
		if again, asked := impl.LinkRun(setup.setup, ops.list), first(linkAsked(run.setup, run.ops)); !sameOut(again, want) || !sameOut(again, asked) {
			t.Errorf("run %d answers another time\n%s", i, toldLink(run.setup, run.ops, again, asked))
		}
		clear(got.Obs[:cap(got.Obs)])
		ops.check(t, "LinkRun")
	}
}

func first[A, B any](a A, _ B) A { return a }

// No two lists of one answer lie in one memory: each is written over in turn.
func TestP1LinkListsShareNothing(t *testing.T) {
	for _, run := range linkRuns() {
		got := impl.LinkRun(run.setup, run.ops)
		for i := range got.Obs {
			before := plainOut(got)
			data := got.Obs[i].Data[:cap(got.Obs[i].Data)]
			for j := range data {
				data[j] ^= 0x55
			}
			for j := range got.Obs {
				if j != i && string(got.Obs[j].Data) != string(before.Obs[j].Data) {
					t.Fatalf("answers %d and %d share memory", i, j)
				}
			}
		}
	}
}

// What is done to the arguments behind the call changes no answer.
func TestP1LinkAnswersStay(t *testing.T) {
	s := plainLink()
	s.ServerNames, s.Names = []string{strings.Clone("b")}, []string{strings.Clone("b")}
	text := []byte("to be read")
	ops := []impl.LinkOp{linkCalm(3), linkOpen(0), {Kind: 2, Data: text}, linkCalm(3), linkRead(1, 0, 99)}
	got := impl.LinkRun(s, ops)
	before := plainOut(got)
	s.Names[0], s.ServerNames[0] = "x", "x"
	clear(text)
	clear(ops)
	clear(s.Seed)
	clear(s.Versions)
	if !sameOut(got, before) || string(got.Obs[4].Data) != "to be read" || got.Client.Name != "b" || got.Server.Name != "b" {
		t.Errorf("%+v", got)
	}
}

// The lists of a setup and of operations may lie in one memory.
func TestP1LinkOfWhatLiesTogether(t *testing.T) {
	row, versions, names := amid(rowOf(60, 7, 256), 0xee), amid([]int{5, 6, 7}, 9), amid([]string{"a", "b", "c"}, "mark")
	s := plainLink()
	s.Shared, s.Seed = row.list[:16], row.list[5:21]
	s.Versions, s.ServerVersions, s.Names, s.ServerNames = versions.list[:2], versions.list[1:], names.list[:2], names.list[1:]
	ops := []impl.LinkOp{linkCalm(9), linkOpen(0), {Kind: 2, Data: row.list[3:30]}, {Kind: 2, Data: row.list[:10]}, linkCalm(9), linkRead(1, 0, 99)}
	got := takesLink(t, s, ops)
	if !bothOpen(got) || got.Client.Version != 6 || got.Client.Name != "b" || string(got.Obs[5].Data) != string(row.list[3:30])+string(row.list[:10]) {
		t.Errorf("%+v", got)
	}
	row.check(t, "LinkRun")
	versions.check(t, "LinkRun")
	names.check(t, "LinkRun")
}

// An empty list and nil are the same, in the setup and in the operations.
func TestP1LinkOfEmptyLists(t *testing.T) {
	s, empty := plainLink(), []byte{}
	for _, p := range paramsIn(&s) {
		p.Origin, p.Token, p.First = empty, empty, empty
	}
	ops := []impl.LinkOp{linkCalm(3), linkOpen(0), {Kind: 2, Data: nil, Flag: true}, linkCalm(3), linkRead(1, 0, 9)}
	want := takesLink(t, plainLink(), ops)
	for i := range ops {
		ops[i].Data = empty
	}
	if got := takesLink(t, s, ops); !sameOut(got, want) || !got.Obs[4].End {
		t.Errorf("%+v", got)
	}
	if got := impl.LinkRun(plainLink(), []impl.LinkOp{}); !sameOut(got, impl.LinkRun(plainLink(), nil)) {
		t.Errorf("%+v", got)
	}
}

// What stands behind the end of a list is not of it.
func TestP1NoLinkOperationBehindTheEndIsRun(t *testing.T) {
	ops := slices.Repeat([]impl.LinkOp{linkTick(1)}, 121)
	if got := takesLink(t, plainLink(), ops[:120]); got.Obs[119].Time != 120 {
		t.Errorf("%+v", got.Obs[119])
	}
	two := []impl.LinkOp{linkCalm(1), linkClose(0, 1)}
	if got := takesLink(t, plainLink(), two[:1]); got.Client.State != 1 {
		t.Errorf("%+v", got.Client)
	}
	s := plainLink()
	s.Shared, s.Seed = s.Shared[:15], s.Seed[:16]
	refusesLink(t, s, two, impl.ErrBad)
}

func toldOut(o impl.LinkOut) string { return fmt.Sprintf("%+v", plainOut(o)) }

// Nothing is kept from call to call.
func TestP1LinkKeepsNothing(t *testing.T) {
	runs := linkRuns()
	checkKeepsNothing(t, func() string {
		var told strings.Builder
		for _, run := range runs {
			told.WriteString(toldOut(impl.LinkRun(run.setup, run.ops)))
		}
		return told.String()
	})
}

// A run answers the same beside others at the same time.
func TestP1LinkBesideOthers(t *testing.T) {
	runs := linkRuns()
	want := make([]string, len(runs))
	for i, run := range runs {
		want[i] = toldOut(impl.LinkRun(run.setup, run.ops))
	}
	var all sync.WaitGroup
	for worker := range 8 {
		all.Add(1)
		go func() {
			defer all.Done()
			for i := range runs {
				at := (i + 5*worker) % len(runs)
				if got := toldOut(impl.LinkRun(runs[at].setup, runs[at].ops)); got != want[at] {
					t.Errorf("run %d answers another beside others", at)
				}
			}
		}()
	}
	all.Wait()
}

// All goroutines have ended when the call answers. With one processor those that have not are there still.
func TestP1LinkGoroutinesHaveEnded(t *testing.T) {
	defer runtime.GOMAXPROCS(runtime.GOMAXPROCS(1))
	before, left := runtime.NumGoroutine(), 0
	for range 50 {
		for _, run := range linkRuns()[:6] {
			impl.LinkRun(run.setup, run.ops)
			left += way(runtime.NumGoroutine() > before)
		}
	}
	// One that has told that it is done may be stopped just ahead of its end, but not often.
	if left > 30 {
		t.Errorf("behind %d of 300 runs goroutines are left", left)
	}
}

// linkFields are the numbers of an operation.
func linkFields(op *impl.LinkOp) []*int { return []*int{&op.Kind, &op.Side, &op.Id, &op.N, &op.At} }

func TestP1LinkTakesAnyIntegers(t *testing.T) {
	odd := []int{math.MinInt, math.MinInt + 1, -1, 0, 1, 2, 3, 60, 61, 255, 256, 599, 600, 1115, 65536, maxTime, maxStreams, 4*maxStreams - 1, maxVar, maxVar + 1, math.MaxInt - 1, math.MaxInt}
	ahead := []impl.LinkOp{linkCalm(1), linkOpen(0), linkWrite(0, 0, "x"), linkOpen(1), linkWrite(1, 1, "y"), linkDeliver(8)}
	for _, v := range odd {
		mustEnd(t, fmt.Sprintf("LinkRun with %d", v), func() {
			for kind := 1; kind <= 13; kind++ {
				ops := slices.Clone(ahead)
				for field := range 5 {
					op := impl.LinkOp{Kind: kind, Side: field % 2, Id: field % 2, N: 1, Data: []byte("d")}
					*linkFields(&op)[field] = v
					both := op
					*linkFields(&both)[(field+2)%5] = v
					ops = append(ops, op, both)
				}
				checkLink(t, plainLink(), append(ops, linkCalm(9), linkRead(1, 0, v), linkRead(0, 1, v)))
			}
			for _, change := range []func(s *impl.LinkSetup){
				func(s *impl.LinkSetup) { s.Cc = v },
				func(s *impl.LinkSetup) { s.Versions = []int{v} },
				func(s *impl.LinkSetup) { s.ServerVersions = []int{1, v} },
				func(s *impl.LinkSetup) { s.Client.Idle, s.Server.Size = v, v },
				func(s *impl.LinkSetup) { s.Server.TwoWay, s.Client.ConnWindow = v, v },
			} {
				s := plainLink()
				change(&s)
				checkLink(t, s, []impl.LinkOp{linkCalm(3), linkTick(100000)})
			}
		})
	}
}

// Every operation of its own, and every pair of them: nothing panics and all ends.
func TestP1LinkEveryFewOperations(t *testing.T) {
	choices := []impl.LinkOp{
		linkOpen(0), linkOpen(1), linkOpenOneWay(0), linkWrite(0, 0, "ab"), linkLast(1, 1, "cd"), linkWrite(1, 0, "ef"), linkRead(1, 0, 9), linkRead(0, 1, 9), linkDeliver(0), linkDeliver(8), linkDeliver(9),
		linkSpoil(8, 11, 1), linkTick(2000000), linkReset(0, 0, 1), linkStop(1, 0, 1), linkStop(0, 0, 2), linkClose(0, 1), linkClose(1, 1), linkRebind(), linkUpdate(0), linkUpdate(1), linkCalm(9), linkLose(),
	}
	ahead := []impl.LinkOp{linkCalm(1), linkOpen(0), linkWrite(0, 0, "x")}
	eachOp(2, choices, ahead, func(ops []impl.LinkOp) {
		checkLink(t, plainLink(), slices.Concat(ops, []impl.LinkOp{linkCalm(9), linkRead(1, 0, 9)}))
	})
	eachOp(2, choices, nil, func(ops []impl.LinkOp) { checkLink(t, retrySetup(), append(slices.Clone(ops), linkCalm(9))) })
	if reflect.DeepEqual(choices[0], choices[1]) {
		t.Error("two choices are one")
	}
}
