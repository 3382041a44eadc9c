package tests

import (
	"fmt"
	"math"
	"slices"
	"strings"
	"testing"

	"loop.example/g00012/impl"
)

func TestReadPriority(t *testing.T) {
	for _, c := range []struct {
		text    string
		urgency int
		turns   bool
	}{
		{"", 3, false}, {" ", 3, false}, {",", 3, false}, {" , ,, ", 3, false},
		{"u=0", 0, false}, {"u=1", 1, false}, {"u=2", 2, false}, {"u=3", 3, false}, {"u=4", 4, false}, {"u=5", 5, false}, {"u=6", 6, false}, {"u=7", 7, false},
		{"u=8", 3, false}, {"u=9", 3, false}, {"u=/", 3, false}, {"u=:", 3, false}, {"u=", 3, false}, {"u", 3, false}, {"u=12", 3, false}, {"u=00", 3, false}, {"u=01", 3, false}, {"u=10", 3, false}, {"u=-1", 3, false}, {"u=+1", 3, false}, {"u=a", 3, false}, {"u=?1", 3, false}, {"u==1", 3, false}, {"U=1", 3, false}, {"uu=1", 3, false}, {"=1", 3, false}, {"1", 3, false}, {"u1", 3, false},
		{"i", 3, true}, {"i=?1", 3, true}, {"i=?0", 3, false}, {"i=?2", 3, false}, {"i=?", 3, false}, {"i=", 3, false}, {"i=1", 3, false}, {"i?1", 3, false}, {"i=?10", 3, false}, {"i=?01", 3, false}, {"I", 3, false}, {"I=?1", 3, false}, {"ii", 3, false}, {"i=?1i", 3, false}, {"i=?1;a", 3, false}, {"i;a", 3, false}, {"=?1", 3, false}, {"?1", 3, false},
		// Of several of one sort the last counts; what is none counts for nothing.
		{"u=1,u=2", 2, false}, {"u=2,u=1", 1, false}, {"u=7,u=0,u=5", 5, false}, {"u=1,u=8", 1, false}, {"u=1,u=", 1, false}, {"u=1,u", 1, false}, {"u=8,u=1", 1, false}, {"u=1,U=2", 1, false}, {"u=0,u=3", 3, false},
		{"i,i=?0", 3, false}, {"i=?0,i", 3, true}, {"i=?1,i=?0", 3, false}, {"i=?0,i=?1", 3, true}, {"i,i=?2", 3, true}, {"i=?0,i=?2", 3, false}, {"i,I", 3, true}, {"i,i=?0,i", 3, true}, {"i,i", 3, true}, {"i=?0,i=?0", 3, false},
		{"u=1,i", 1, true}, {"i,u=1", 1, true}, {"i,u=1,i=?0,u=6", 6, false}, {"u=1,x,i,y=2", 1, true}, {"x=u=1", 3, false}, {"u=1 i", 3, false}, {"i u=1", 3, false}, {"u=1;i", 3, false}, {"u=1.i", 3, false},
		// Blanks around a part, and within.
		{" u=1", 1, false}, {"u=1 ", 1, false}, {"   u=1   ", 1, false}, {" i ", 3, true}, {" i=?1 ", 3, true}, {"i , i=?0 ", 3, false}, {"u=1 , i", 1, true}, {"u=1, i", 1, true}, {"  u=1  ,  i  ", 1, true}, {",u=1,", 1, false}, {",,i,,", 3, true}, {" ,u=2, ,i, ", 2, true},
		{"u =1", 3, false}, {"u= 1", 3, false}, {"u = 1", 3, false}, {"u=1 1", 3, false}, {"i =?1", 3, false}, {"i= ?1", 3, false}, {"i=? 1", 3, false}, {"i =", 3, false}, {"i i", 3, false}, {"u=1 2", 3, false},
		// Other bytes that look blank are none.
		{"\tu=1", 3, false}, {"u=1\t", 3, false}, {"\ni", 3, false}, {"i\n", 3, false}, {"u=1\r", 3, false}, {"\u00a0i", 3, false}, {"i\u00a0", 3, false}, {"\u2003u=1", 3, false}, {"\x0bi", 3, false}, {"\x0ci", 3, false}, {"i\x00", 3, false}, {"\x85i", 3, false}, {"\xa0u=1", 3, false}, {"u=1,\ti", 1, false}, {" \t i", 3, false}, {"u=1\n,i", 3, true},
		// Other marks between.
		{"u=1;u=2", 3, false}, {"u=1\x00,i", 3, true}, {"u=1\uff0ci", 3, false}, {"\xff,i,\xff", 3, true}, {"u=\u0661", 3, false}, {"\uff55=1", 3, false}, {"u=1,\u0131", 1, false},
	} {
		checkPriority(t, c.text, c.urgency, c.turns)
		checkPriorityAsked(t, c.text)
	}
}

// Every byte at every place of a part.
func TestReadPriorityBytes(t *testing.T) {
	for _, part := range []string{"u=5", "i", "i=?1", "i=?0", "u=5, i", " i=?1 ,u=2"} {
		for at := range len(part) + 1 {
			for c := range 256 {
				b := string([]byte{byte(c)})
				checkPriorityAsked(t, part[:at]+b+part[at:])
				checkPriorityAsked(t, "i,u=6,"+part[:at]+b+part[at:])
				if at < len(part) {
					checkPriorityAsked(t, part[:at]+b+part[at+1:])
					checkPriorityAsked(t, "i,u=6,"+part[:at]+b+part[at+1:])
				}
			}
			checkPriorityAsked(t, part[:at])
			checkPriorityAsked(t, part[at:])
		}
	}
}

func TestReadPriorityLongest(t *testing.T) {
	for _, n := range []int{1023, 1024} {
		checkPriority(t, strings.Repeat(" ", n-3)+"u=1", 1, false)
		checkPriority(t, "u=1"+strings.Repeat(" ", n-3), 1, false)
		checkPriority(t, "i"+strings.Repeat(",", n-1), 3, true)
		checkPriority(t, strings.Repeat(",", n-5)+"u=2,i", 2, true)
		checkPriority(t, "u=2,i,"+strings.Repeat("x", n-6), 2, true)
		checkPriority(t, strings.Repeat("i,", n/2)[:n-2]+",i", 3, true)
	}
	for _, n := range []int{1025, 1026, 2000, 70000} {
		checkPriority(t, strings.Repeat(" ", n-3)+"u=1", 3, false)
		checkPriority(t, "u=1,i,"+strings.Repeat(" ", n-6), 3, false)
		checkPriority(t, strings.Repeat("i,", n/2+1)[:n], 3, false)
		checkPriority(t, strings.Repeat(",", n-5)+"u=2,i", 3, false)
	}
}

func TestReadPriorityDrawn(t *testing.T) {
	more := numbers(26)
	pieces := []string{"u=0", "u=1", "u=6", "u=7", "u=8", "u=", "u", "i", "i=?1", "i=?0", "i=?2", "I", "x", "\t", "=", "?", "1", "a=1", ""}
	between := []string{",", ",", ",", ", ", " ,", " , ", ",,", " ", "  ", "", "\t", ";"}
	met := map[string]int{}
	for range 60000 {
		var text strings.Builder
		for range more.below(8) {
			text.WriteString(pieces[more.below(len(pieces))])
			text.WriteString(between[more.below(len(between))])
		}
		urgency, turns := checkPriorityAsked(t, text.String())
		met[fmt.Sprint(urgency, turns)]++
	}
	for _, what := range []string{"0 false", "0 true", "7 false", "7 true", "3 false", "3 true"} {
		if met[what] < 200 {
			t.Errorf("%s was met %d times", what, met[what])
		}
	}
	for range 20000 {
		checkPriorityAsked(t, string(more.bytes(more.below(8))))
	}
}

func TestPriorityText(t *testing.T) {
	plain := []string{"u=0", "u=1", "u=2", "u=3", "u=4", "u=5", "u=6", "u=7"}
	for urgency, text := range plain {
		if got := impl.PriorityText(urgency, false); got != text {
			t.Errorf("PriorityText(%d, false) = %q", urgency, got)
		}
		if got := impl.PriorityText(urgency, true); got != text+", i" {
			t.Errorf("PriorityText(%d, true) = %q", urgency, got)
		}
	}
	for _, urgency := range append(oddInts(), -1, -2, 8, 9, 10, 48, 55) {
		if inRange(urgency, 0, 7) {
			continue
		}
		for _, turns := range []bool{false, true} {
			mustEnd(t, "PriorityText", func() {
				if got := impl.PriorityText(urgency, turns); got != "" {
					t.Errorf("PriorityText(%d, %v) = %q", urgency, turns, got)
				}
			})
		}
	}
}

// What is written is read, also with other parts ahead of it, of which those of the same sort count no more.
func TestPriorityBack(t *testing.T) {
	for urgency := range 8 {
		for _, turns := range []bool{false, true} {
			text := impl.PriorityText(urgency, turns)
			checkPriority(t, text, urgency, turns)
			for _, ahead := range []string{"x", "u=9", "", " ", "a=1, b", "u=0", "u=7", "u=3", "i=?0", "u=0, i=?0", "\t", "i=?2"} {
				checkPriority(t, ahead+","+text, urgency, turns)
				checkPriority(t, ahead+" , "+text+" ", urgency, turns)
			}
			for _, ahead := range []string{"i", "i=?1", "u=0, i"} {
				checkPriority(t, ahead+","+text, urgency, true)
				checkPriority(t, ahead+",i=?0,"+text, urgency, turns)
			}
			for _, behind := range []string{"x", "u=9", "", "i=?2", "u"} {
				checkPriority(t, text+","+behind, urgency, turns)
			}
		}
	}
}

func waits(id, urgency, sent int) impl.Waiting {
	return impl.Waiting{Id: id, Urgency: urgency, Sent: sent}
}

func waitsInTurns(id, urgency, sent int) impl.Waiting {
	return impl.Waiting{Id: id, Urgency: urgency, Sent: sent, Turns: true}
}

func TestP22NextStream(t *testing.T) {
	for _, c := range []struct {
		list []impl.Waiting
		want int
	}{
		{nil, -1}, {[]impl.Waiting{}, -1}, {[]impl.Waiting{{}}, 0}, {[]impl.Waiting{waitsInTurns(9, 7, 100)}, 0},
		// The least urgency, whatever else.
		{[]impl.Waiting{waits(0, 3, 0), waits(4, 2, 0)}, 1}, {[]impl.Waiting{waits(4, 2, 0), waits(0, 3, 0)}, 0}, {[]impl.Waiting{waits(0, 3, 0), waitsInTurns(4, 2, 900)}, 1}, {[]impl.Waiting{waits(0, 1, 0), waits(4, 2, 0), waits(8, 0, 5), waits(12, 7, 0)}, 2},
		// Not in turns first.
		{[]impl.Waiting{waitsInTurns(0, 3, 0), waits(4, 3, 50)}, 1}, {[]impl.Waiting{waits(4, 3, 50), waitsInTurns(0, 3, 0)}, 0}, {[]impl.Waiting{waitsInTurns(0, 3, 0), waitsInTurns(4, 3, 0), waits(8, 3, 9), waits(12, 3, 0)}, 2},
		// Of those the least Id, however much was sent.
		{[]impl.Waiting{waits(8, 3, 0), waits(4, 3, 50)}, 1}, {[]impl.Waiting{waits(4, 3, 50), waits(8, 3, 0)}, 0}, {[]impl.Waiting{waits(12, 3, 1), waits(4, 3, 2), waits(8, 3, 0)}, 1},
		// In turns the least Sent, and then the least Id.
		{[]impl.Waiting{waitsInTurns(4, 3, 50), waitsInTurns(8, 3, 0)}, 1}, {[]impl.Waiting{waitsInTurns(8, 3, 0), waitsInTurns(4, 3, 50)}, 0}, {[]impl.Waiting{waitsInTurns(8, 3, 7), waitsInTurns(4, 3, 7)}, 1}, {[]impl.Waiting{waitsInTurns(4, 3, 7), waitsInTurns(8, 3, 7)}, 0}, {[]impl.Waiting{waitsInTurns(8, 3, 7), waitsInTurns(12, 3, 6), waitsInTurns(4, 3, 6), waitsInTurns(0, 3, 7)}, 2},
		// Of equal ones the first.
		{[]impl.Waiting{waits(4, 3, 0), waits(4, 3, 0)}, 0}, {[]impl.Waiting{waits(4, 3, 5), waits(4, 3, 0)}, 0}, {[]impl.Waiting{waits(4, 3, 0), waits(4, 3, 5), waits(4, 3, 0)}, 0}, {[]impl.Waiting{waitsInTurns(4, 3, 5), waitsInTurns(4, 3, 5)}, 0}, {[]impl.Waiting{waits(8, 3, 0), waitsInTurns(4, 3, 5), waits(4, 3, 0), waits(4, 3, 0)}, 2}, {[]impl.Waiting{waitsInTurns(4, 3, 6), waitsInTurns(4, 3, 5), waitsInTurns(4, 3, 5)}, 1},
		// Any integers.
		{[]impl.Waiting{waits(0, 0, 0), waits(0, -1, 0)}, 1}, {[]impl.Waiting{waits(0, math.MaxInt, 0), waits(0, math.MinInt, 0)}, 1}, {[]impl.Waiting{waits(0, math.MinInt, 0), waits(0, math.MaxInt, 0)}, 0}, {[]impl.Waiting{waits(math.MaxInt, 0, 0), waits(math.MinInt, 0, 0)}, 1}, {[]impl.Waiting{waitsInTurns(0, 0, math.MaxInt), waitsInTurns(0, 0, math.MinInt)}, 1}, {[]impl.Waiting{waits(math.MaxInt, math.MaxInt, math.MaxInt)}, 0},
	} {
		checkNext(t, c.list, c.want)
		checkNextAsked(t, c.list)
	}
}

func TestP22NextStreamCounts(t *testing.T) {
	for _, n := range []int{1, 2, 4095, 4096} {
		list := slices.Repeat([]impl.Waiting{waits(4, 3, 0)}, n)
		checkNext(t, list, 0)
		list[n-1].Id = 0
		checkNext(t, list, n-1)
		list[0].Urgency = 2
		checkNext(t, list, 0)
	}
	for _, n := range []int{4097, 4098, 10000} {
		checkNext(t, slices.Repeat([]impl.Waiting{waits(4, 3, 0)}, n), -1)
		checkNext(t, make([]impl.Waiting, n), -1)
	}
}

// All lists of a few that differ in little.
func TestP22NextStreamSmall(t *testing.T) {
	var choices []impl.Waiting
	for i := range 16 {
		choices = append(choices, impl.Waiting{Id: i & 1, Urgency: i >> 1 & 1, Sent: i >> 2 & 1, Turns: i>>3 == 1})
	}
	for count := range 4 {
		eachOp(count, choices, nil, func(list []impl.Waiting) { checkNextAsked(t, list) })
	}
}

func drawnWaiting(more *numbers, width int) impl.Waiting {
	return impl.Waiting{Id: 4 * more.below(width), Urgency: more.below(min(width, 8)), Sent: 100 * more.below(width), Turns: more.below(2) == 0}
}

func TestP22NextStreamDrawn(t *testing.T) {
	more := numbers(27)
	for range 20000 {
		var list []impl.Waiting
		width := 1 + more.below(8)
		for range more.below(12) {
			list = append(list, drawnWaiting(&more, width))
		}
		next := checkNextAsked(t, list)
		for _, w := range list {
			if w.Urgency < list[next].Urgency {
				t.Errorf("%+v is more urgent than %+v", w, list[next])
			}
		}
	}
	odd := oddInts()
	for range 20000 {
		var list []impl.Waiting
		for range more.below(6) {
			list = append(list, impl.Waiting{Id: odd[more.below(len(odd))], Urgency: odd[more.below(4)], Sent: odd[more.below(len(odd))], Turns: more.below(2) == 0})
		}
		mustEnd(t, "NextStream", func() { checkNextAsked(t, list) })
	}
}

// Taken out one by one, each comes once, and none ahead of a more urgent one.
func TestP22TakenOut(t *testing.T) {
	more := numbers(28)
	for range 500 {
		var list, taken []impl.Waiting
		for i := range more.below(40) {
			w := drawnWaiting(&more, 8)
			w.Id = 4 * i
			list = append(list, w)
		}
		shuffle(&more, list)
		all := slices.Clone(list)
		for len(list) > 0 {
			next := impl.NextStream(list)
			if !inRange(next, 0, len(list)-1) {
				t.Fatalf("NextStream = %d of %d", next, len(list))
			}
			taken = append(taken, list[next])
			list = slices.Delete(list, next, next+1)
		}
		checkNext(t, list, -1)
		for i, w := range taken[:max(0, len(taken)-1)] {
			if behind := taken[i+1]; behind.Urgency < w.Urgency || behind.Urgency == w.Urgency && w.Turns && !behind.Turns {
				t.Fatalf("%+v came ahead of %+v", w, behind)
			}
		}
		byId := func(a, b impl.Waiting) int { return a.Id - b.Id }
		slices.SortFunc(taken, byId)
		slices.SortFunc(all, byId)
		if !slices.Equal(taken, all) {
			t.Fatalf("taken out were %v of %v", taken, all)
		}
	}
}

// Content that is sent piece by piece comes to its end, in turns or not.
func TestP22ContentToItsEnd(t *testing.T) {
	more := numbers(29)
	for range 200 {
		var list []impl.Waiting
		length := map[int]int{}
		for i := range 1 + more.below(10) {
			list = append(list, impl.Waiting{Id: 4 * i, Urgency: more.below(3), Turns: more.below(2) == 0})
			length[4*i] = 1 + more.below(2000)
		}
		steps := 0
		for len(list) > 0 {
			next := impl.NextStream(list)
			w := &list[next]
			for _, other := range list {
				if other.Urgency == w.Urgency && other.Turns && w.Turns && other.Sent < w.Sent {
					t.Fatalf("%+v is sent, %+v waits", *w, other)
				}
			}
			w.Sent += 100
			if w.Sent >= length[w.Id] {
				list = slices.Delete(list, next, next+1)
			}
			if steps++; steps > 200 {
				t.Fatalf("%d are left", len(list))
			}
		}
	}
}
