package tests

import (
	"fmt"
	"slices"
	"strings"
	"testing"

	"loop.example/g00012/impl"
)

// wantScript asks for just these lines.
func wantScript(t *testing.T, text string, want ...string) {
	t.Helper()
	whole := ""
	for _, line := range want {
		whole += line + "\n"
	}
	if got := impl.RunScript(text); got != whole {
		t.Errorf("RunScript(%.300q) = %q, want %q", text, got, whole)
	}
	checkScript(t, text)
}

func TestP25AScriptByHand(t *testing.T) {
	// The numbers of datagrams are those of TestP24AWorldByHand.
	wantScript(t, strings.Join([]string{
		"ask GET /", "deliver 0", "deliver 1", "show", "deliver 2", "deliver 3", "deliver 4", "deliver 5", "deliver 6", "deliver 7", "show", "deliver 8", "show",
		"ask DELETE /gone xy", "deliver 9", "deliver 10", "deliver 11", "deliver 12", "deliver 13", "ask get /", "drop 0", "prior 4 u=1", "away", "away", "tick 7", "show", "show", "close 0 3", "ask GET /", "deliver 17", "away", "show",
	}, "\n"),
		"ok 0", "ok 2 0 0", "ok 1 0 0", "reply 0 0 0 0 0", "end 0 0", "ok 2 1 0", "ok 0 1 0", "ok 2 1 1", "ok 1 1 1", "ok 0 1 1", "ok 1 1 1", "reply 0 0 0 0 0", "end 0 0", "ok 1 1 1", "reply 0 0 200 1 4", "end 0 0",
		"ok 4", "ok 1 1 1", "ok 0 1 1", "ok 1 1 1", "ok 0 1 1", "ok 1 1 1", "error 1", "error 7", "ok", "ok", "error 7", "ok 0 1 1", "reply 0 0 200 1 4", "reply 4 0 204 1 0", "end 0 0", "reply 0 0 200 1 4", "reply 4 0 204 1 0", "end 0 0",
		"ok 1 2 1", "ok 8", "ok 0 2 2", "error 7", "reply 0 0 200 1 4", "reply 4 0 204 1 0", "reply 8 0 0 0 0", "end 0 0")
	// Every route of the setup.
	wantScript(t, "ask GET /\nask POST /echo some\nask POST /count some\nask GET /part/abc\nask DELETE /gone\nask PUT /\nask GET /nowhere\ncalm 60\nshow\n",
		"ok 0", "ok 4", "ok 8", "ok 12", "ok 16", "ok 20", "ok 24", "ok 13 1 1", "reply 0 0 200 1 4", "reply 4 0 200 1 4", "reply 8 0 200 1 1", "reply 12 0 200 1 3", "reply 16 0 204 1 0", "reply 20 0 405 1 0", "reply 24 0 404 1 0", "end 0 0")
}

// The setup: what each of its numbers makes of a script.
func TestP25TheSetupOfScripts(t *testing.T) {
	// Idle: 30 seconds of silence behind the last packet that was heard. The client's probes are at 999000, then twice as long each.
	wantScript(t, "tick 29999999\nshow", "ok 4 0 0", "end 0 0")
	wantScript(t, "tick 30000000\nshow", "ok 4 2 2", "end 0 0")
	wantScript(t, "calm 9\ntick 29999999\ntick 1", "ok 11 1 1", "ok 0 1 1", "ok 0 2 2")
	// The same seed, the same windows and tables: the bytes on the way tell, by the datagrams that they fill.
	body := strings.Repeat("b", 8192)
	checkScript(t, "ask POST /echo "+body, "calm 60", "show", "ask POST /count "+body, "ask POST /echo "+body, "calm 60", "show")
	checkScript(t, append(slices.Repeat([]string{"ask POST /echo " + body[:1200]}, 15), "calm 60", "show")...)
	checkScript(t, append(slices.Repeat([]string{"ask GET /part/a"}, 17), "calm 60", "show")...)
}

// A byte more or less than a window, a piece or a packet holds: how many datagrams there are tells.
func TestP25BytesAtTheEdges(t *testing.T) {
	sent := map[string]bool{}
	for _, edge := range []int{500, 1000, 1050, 2000, 2980, 4000, 8000} {
		for n := edge - 30; n <= edge+30; n++ {
			out := checkScript(t, "calm 9", "ask POST /echo "+strings.Repeat("b", n), "calm 60", "show")
			sent[out[2]] = true
			if n%7 == 0 {
				checkScript(t, "calm 9", "ask POST /count "+strings.Repeat("b", n/4), "ask POST /count "+strings.Repeat("b", n/4), "ask POST /count "+strings.Repeat("b", n/4), "ask POST /count "+strings.Repeat("b", n-n/4*3), "calm 60", "show")
			}
		}
	}
	if len(sent) < 6 {
		t.Errorf("only %v", sent)
	}
	// Paths that are just as long as an entry of the table may be, once and again.
	for n := 150; n <= 170; n++ {
		path := "/part/" + strings.Repeat("p", n-6)
		checkScript(t, "calm 9", "ask GET "+path, "calm 9", "ask GET "+path, "ask GET /part/other", "calm 9", "ask GET "+path+" "+strings.Repeat("b", 1056-n), "calm 9", "show")
	}
}

func TestP25HowLong(t *testing.T) {
	wantScript(t, "")
	wantScript(t, "\n")
	wantScript(t, " ")
	wantScript(t, "x", "bad")
	wantScript(t, "5", "bad")
	long := strings.Repeat("x", 19999)
	wantScript(t, long+"\n", "bad")
	wantScript(t, long+"xx")
	wantScript(t, long+"x\n")
	wantScript(t, strings.Repeat(" ", 20000))
	wantScript(t, strings.Repeat("\n", 20000))
	wantScript(t, strings.Repeat("\n", 20001))
	wantScript(t, strings.Repeat(" ", 19996)+"show", "end 0 0")
	wantScript(t, strings.Repeat("\n", 19996)+"show", "end 0 0")
	wantScript(t, "show"+strings.Repeat("\n", 19996), "end 0 0")
	wantScript(t, "show"+strings.Repeat("\n", 19997))
	wantScript(t, strings.Repeat("x", 20000), "bad")
	wantScript(t, strings.Repeat("x", 20001))
	wantScript(t, strings.Repeat("x", 1<<20))
	// Bad lines count for nothing.
	wantScript(t, strings.Repeat("x\n", 10000), slices.Repeat([]string{"bad"}, 10000)...)
}

func TestP25HowManyLines(t *testing.T) {
	answers := map[string]string{"show": "end 0 0", "tick 0": "ok 0 0 0", "drop 0": "error 1", "update 7": "error 1", "lose": "ok 0 0 0", "calm 61": "error 1"}
	for line, answer := range answers {
		for _, n := range []int{1, 99, 100} {
			wantScript(t, strings.Repeat(line+"\n", n), slices.Repeat([]string{answer}, n)...)
			wantScript(t, strings.Repeat(line+"\n", n-1)+line, slices.Repeat([]string{answer}, n)...)
		}
		wantScript(t, strings.Repeat(line+"\n", 101))
		wantScript(t, strings.Repeat(line+"\n", 100)+line)
		wantScript(t, strings.Repeat(line+"\n", 200))
		// With others among them, ahead of them and behind.
		wantScript(t, strings.Repeat(line+"\nbad\n\n  \n", 100), slices.Repeat([]string{answer, "bad"}, 100)...)
		wantScript(t, strings.Repeat("none\n", 100)+strings.Repeat(line+"\n", 100)+"none of all", slices.Concat(slices.Repeat([]string{"bad"}, 100), slices.Repeat([]string{answer}, 100), []string{"bad"})...)
		wantScript(t, strings.Repeat(line+"\n\n", 101))
		wantScript(t, strings.Repeat(line+"\n", 100)+"show")
		wantScript(t, strings.Repeat(line+"\n", 100)+"tick 0")
		wantScript(t, "tick 0\n"+strings.Repeat(line+"\n", 100))
		wantScript(t, strings.Repeat(line+"\n", 100)+"tick x", append(slices.Repeat([]string{answer}, 100), "bad")...)
	}
	wantScript(t, strings.Repeat("tick 1\nshow\n", 50), slices.Repeat([]string{"ok 0 0 0", "end 0 0"}, 50)...)
	wantScript(t, strings.Repeat("tick 1\nshow\n", 50)+"tick 1")
	wantScript(t, strings.Repeat("tick 1\nshow\n", 50)+"show")
}

func TestP25LinesAndBlanks(t *testing.T) {
	for _, text := range []string{"tick 5", "tick 5\n", " tick 5", "tick 5 ", "  tick   5   \n", "\ntick 5\n\n", "   \n tick 5 \n   ", "tick 000000005"} {
		wantScript(t, text, "ok 0 0 0")
	}
	wantScript(t, "tick 5\nshow", "ok 0 0 0", "end 0 0")
	wantScript(t, "tick 5\nshow\n", "ok 0 0 0", "end 0 0")
	wantScript(t, "tick 5\n\n\nshow\n\n", "ok 0 0 0", "end 0 0")
	// Bytes that look like a blank, or like the end of a line, are none.
	for _, b := range []string{"\t", "\r", "\v", "\f", "\x00", "\u00a0", "\u2003", "\u3000", "\u0085", "\x85", "\xa0", "\u2028", "\ufeff", "\x1f", "!", "\x7f", "\xff"} {
		wantScript(t, "tick"+b+"5", "bad")
		wantScript(t, b+"tick 5", "bad")
		wantScript(t, "tick 5"+b, "bad")
		wantScript(t, "tick 5 "+b, "bad")
		wantScript(t, "show"+b+"\nshow", "bad", "end 0 0")
		wantScript(t, b, "bad")
		wantScript(t, " "+b+" \n", "bad")
		wantScript(t, "show"+b+"show", "bad")
		// They may stand in a word: no path, and a body, may have them.
		wantScript(t, "ask GET /"+b+"x", map[bool]string{true: "ok 0", false: "error 1"}[b == "!"])
		wantScript(t, "ask POST /echo "+b+"x"+b+"\ncalm 9\nshow", "ok 0", "ok 11 1 1", fmt.Sprintf("reply 0 0 200 1 %d", 1+2*len(b)), "end 0 0")
	}
	wantScript(t, "tick 5\r\nshow\r\n", "bad", "bad")
	wantScript(t, "tick 5 \r\n", "bad")
}

// scriptWords are commands with words as they ask for, and how they answer at first.
func scriptWords() map[string]string {
	return map[string]string{
		"ask GET /": "ok 0", "ask GET / body": "ok 0", "drop 0": "error 1", "away": "ok", "prior 0 u=1": "error 1", "deliver 0": "ok 2 0 0", "spoil 0 9 1": "ok 0 0 0", "tick 1": "ok 0 0 0", "calm 1": "ok 11 1 1",
		"lose": "ok 0 0 0", "rebind": "ok 0 0 0", "update 0": "error 7", "close 0 1": "ok 1 2 0", "show": "end 0 0",
	}
}

func TestP25WordsTooFewAndTooMany(t *testing.T) {
	for line, answer := range scriptWords() {
		wantScript(t, line, answer)
		wantScript(t, "  "+strings.ReplaceAll(line, " ", "   ")+" ", answer)
		words := strings.Split(line, " ")
		for n := 1; n < len(words); n++ {
			if short := strings.Join(words[:n], " "); scriptWords()[short] == "" {
				wantScript(t, short, "bad")
			}
		}
		for _, more := range []string{"1", "x", "0 0", "ask", "now"} {
			if words[0] == "ask" && len(words) == 3 && more != "0 0" {
				wantScript(t, line+" "+more, answer)
				continue
			}
			wantScript(t, line+" "+more, "bad")
		}
		wantScript(t, strings.ToUpper(line), "bad")
		wantScript(t, strings.ToUpper(line[:1])+line[1:], "bad")
		wantScript(t, "x"+line, "bad")
		wantScript(t, line[1:], "bad")
		// A command that begins with another one, and one that is begun only.
		name := words[0]
		for _, other := range []string{name + "s", name + name, name + ".", name[:len(name)-1], name + "0"} {
			wantScript(t, other+line[len(name):], "bad")
		}
		// A bad line does nothing.
		wantScript(t, line+" a b c\nshow", "bad", "end 0 0")
	}
	for _, name := range []string{"open", "write", "read", "reset", "stop", "move", "all", "turn", "raw", "end", "reply", "ok", "error", "bad", "end 0 0", "#", "//", ";", "show show", "lose all", "drop", "update", "close", "close 1", "prior", "prior 0", "prior u=1", "prior u=1 0"} {
		wantScript(t, name, "bad")
	}
}

func TestP25Numbers(t *testing.T) {
	// Where a number is to stand, and how a line answers to a good one.
	places := []struct{ format, zero, one string }{
		{"drop %s", "error 1", "error 1"}, {"prior %s w", "error 1", "error 1"}, {"deliver %s", "ok 2 0 0", "error 1"}, {"spoil %s 9 1", "ok 0 0 0", "error 1"}, {"spoil 0 %s 1", "ok 0 0 0", "ok 1 0 0"}, {"spoil 0 4 %s", "ok 2 0 0", "ok 0 0 0"},
		{"tick %s", "ok 0 0 0", "ok 0 0 0"}, {"calm %s", "error 1", "ok 11 1 1"}, {"update %s", "error 7", "error 7"}, {"close %s 1", "ok 1 2 0", "ok 0 0 2"}, {"close 0 %s", "ok 1 2 0", "ok 1 2 0"},
	}
	for _, p := range places {
		line := func(number string) string { return strings.Replace(p.format, "%s", number, 1) }
		for _, zero := range []string{"0", "00", "000000000"} {
			wantScript(t, line(zero), p.zero)
		}
		for _, one := range []string{"1", "01", "000000001"} {
			wantScript(t, line(one), p.one)
		}
		for _, none := range []string{"x", "-1", "+1", "-0", "1x", "x1", "1.", "1.0", ".5", "1e1", "0x1", "1_0", "1,0", "0000000000", "0000000001", "1000000000", "1234567890", "99999999999999999999", "9223372036854775808", "٣", "１", "½", "\x00", "1\x00", "\"1\"", "--1", "a", "O"} {
			wantScript(t, line(none), "bad")
		}
		checkScript(t, line("999999999"), "show")
		checkScript(t, line("099999999"), "show")
		checkScript(t, line("100000000"), "show")
	}
	wantScript(t, "tick 100000000\nshow", "ok 4 2 2", "end 0 0")
	wantScript(t, "tick 100000001\nshow", "error 1", "end 0 0")
	wantScript(t, "tick 999999999\nshow", "error 1", "end 0 0")
	wantScript(t, "close 0 999999999\nshow", "ok 1 2 0", "end 0 0")
	wantScript(t, "close 2 0\nshow", "error 1", "end 0 0")
	wantScript(t, "calm 60\ncalm 61", "ok 11 1 1", "error 1")
}

func TestP25Asks(t *testing.T) {
	long := strings.Repeat("p", 199)
	for _, line := range []string{
		"ask get /", "ask GET a", "ask GET p/", "ask GeT /", "ask GET1 /", "ask GET-A /", "ask ABCDEFGHIJKLMNOPQ /", "ask GET /p" + long, "ask \xff /", "ask GET /\xff", "ask GET /\x1f", "ask / GET", "ask GET ?", "ask POST /echo " + strings.Repeat("x", 8193),
	} {
		wantScript(t, line+"\nshow", "error 1", "end 0 0")
	}
	for _, line := range []string{"ask GET /", "ask ABCDEFGHIJKLMNOP /" + long, "ask POST /echo " + strings.Repeat("x", 8192), "ask GET //", "ask GET /?", "ask GET /%20~!"} {
		wantScript(t, line+"\nshow", "ok 0", "reply 0 0 0 0 0", "end 0 0")
	}
	// A body is the bytes of its word, and nothing else.
	for _, body := range []string{"", "x", "0", "hello", "ask", "\xff\xfe\x00", "äöü", strings.Repeat("b", 500), strings.Repeat("b", 501), strings.Repeat("b", 8192)} {
		out := checkScript(t, "ask POST /echo "+body, "ask POST /count   "+body+"  ", "calm 60", "show")
		want := []string{"ok 0", "ok 4", out[2], fmt.Sprintf("reply 0 0 200 1 %d", len(body)), fmt.Sprintf("reply 4 0 200 1 %d", len(fmt.Sprint(len(body)))), "end 0 0"}
		if !slices.Equal(out, want) {
			t.Errorf("%.50q: %q, want %q", body, out, want)
		}
	}
	wantScript(t, "ask POST /echo\nask POST /echo a b\ncalm 9\nshow", "ok 0", "bad", "ok 11 1 1", "reply 0 0 200 1 0", "end 0 0")
	var lines, want []string
	for i := range 16 {
		lines, want = append(lines, "ask GET /"), append(want, fmt.Sprint("ok ", 4*i))
	}
	wantScript(t, strings.Join(append(lines, "ask GET /", "ask get /"), "\n"), append(want, "error 9", "error 1")...)
}

// show ahead of all, behind each sort of Reply, and twice.
func TestP25Shows(t *testing.T) {
	wantScript(t, "show", "end 0 0")
	wantScript(t, "show\nshow\n", "end 0 0", "end 0 0")
	wantScript(t, "show\nask GET /\nshow\nshow", "end 0 0", "ok 0", "reply 0 0 0 0 0", "end 0 0", "reply 0 0 0 0 0", "end 0 0")
	// Open, given up, refused, Done with and without a content, all in the order in which they were asked.
	wantScript(t, "calm 9\nask GET /\nask GET /\ndrop 0\naway\nshow\ncalm 9\nask GET /\nshow\nshow",
		"ok 11 1 1", "ok 0", "ok 4", "ok", "ok", "reply 0 23 0 0 0", "reply 4 0 0 0 0", "end 0 0", "ok 6 1 1", "error 23", "reply 0 23 0 0 0", "reply 4 23 0 0 0", "end 0 0", "reply 0 23 0 0 0", "reply 4 23 0 0 0", "end 0 0")
	wantScript(t, "ask GET /nowhere\nask POST /echo abc\ncalm 9\nask GET /\ndrop 8\ndrop 0\ndrop 12\nask DELETE /gone\nshow\ncalm 9\nshow",
		"ok 0", "ok 4", "ok 12 1 1", "ok 8", "ok", "error 7", "error 1", "ok 12", "reply 0 0 404 1 0", "reply 4 0 200 1 3", "reply 8 23 0 0 0", "reply 12 0 0 0 0", "end 0 0", "ok 6 1 1", "reply 0 0 404 1 0", "reply 4 0 200 1 3", "reply 8 23 0 0 0", "reply 12 0 204 1 0", "end 0 0")
	// It changes nothing.
	lines := []string{"ask POST /echo abc", "deliver 0", "deliver 1", "deliver 2", "lose", "tick 400000", "calm 9", "rebind", "ask GET /", "update 0", "calm 9", "close 1 4", "calm 3"}
	var shown, plain []string
	for _, line := range lines {
		shown = append(shown, "show", line, "show")
	}
	for _, line := range checkScript(t, shown...) {
		if !strings.HasPrefix(line, "reply ") && !strings.HasPrefix(line, "end ") {
			plain = append(plain, line)
		}
	}
	if want := checkScript(t, lines...); !slices.Equal(plain, want) {
		t.Errorf("with show %q, without %q", plain, want)
	}
}

// Codes of one and of two digits, of every command that has one.
func TestP25Codes(t *testing.T) {
	wantScript(t, "drop 4\nprior 4 x\ndeliver 1\nspoil 1 0 0\nspoil 0 1115 1\ntick 100000001\ncalm 0\nupdate 0\nupdate 2\nclose 3 1", slices.Concat(slices.Repeat([]string{"error 1"}, 7), []string{"error 7", "error 1", "error 1"})...)
	wantScript(t, "close 0 1\nclose 0 1\nclose 1 1\nclose 1 0\nupdate 0\nupdate 1\nshow", "ok 1 2 0", "error 7", "ok 0 2 2", "error 7", "error 7", "error 7", "end 0 0")
	wantScript(t, "calm 3\nupdate 0\nupdate 0\nupdate 1\ncalm 3\nupdate 0", "ok 11 1 1", "ok 0 1 1", "error 7", "ok 0 1 1", "ok 0 1 1", "error 7")
	wantScript(t, "away\naway\ncalm 3\nask GET /", "ok", "error 7", "ok 11 1 1", "error 23")
	wantScript(t, "ask GET /\nprior 0 "+strings.Repeat("w", 1024)+"\nprior 0 "+strings.Repeat("w", 1025), "ok 0", "ok", "error 1")
	wantScript(t, strings.Repeat("rebind\n", 100), slices.Repeat([]string{"ok 0 0 0"}, 100)...)
}

// drawnScriptLine is a command, in most cases, and now and then something near one.
func drawnScriptLine(more *numbers) string {
	number := func(most int) string { return fmt.Sprint(more.below(most)) }
	body := strings.Repeat("b", more.below([]int{2, 50, 900}[more.below(3)]))
	line := []string{
		"ask POST /echo " + body, "ask POST /echo " + body, "ask GET /", "ask GET /part/" + number(100), "ask POST /count " + body, "ask DELETE /gone", "ask GET /none", "ask get /", "drop " + fmt.Sprint(4*more.below(6)), "away", "prior " + fmt.Sprint(4*more.below(6)) + " u=" + number(8),
		"deliver " + number(30), "deliver " + number(30), "deliver " + number(60), "spoil " + number(20) + " " + number(60) + " " + number(300), "tick " + number(3000), "tick " + number(3000000), "calm " + number(62), "calm " + number(9), "calm 9", "lose", "rebind", "update " + number(3), "show", "show", "",
	}[more.below(26)]
	switch more.below(60) {
	case 0:
		return "close " + number(3) + " " + number(99)
	case 1:
		return line + " " + number(9)
	case 2:
		return strings.ToUpper(line)
	case 3:
		return line[:more.below(len(line)+1)]
	case 4:
		return strings.ReplaceAll(line, " ", []string{"  ", "\t", "\r", "   "}[more.below(4)])
	case 5:
		return string(more.bytes(more.below(8)))
	case 6:
		return " " + line + "  "
	}
	return line
}

// Of drawn scripts each line is answered as WorldRun answers for the script's setup.
func TestP25DrawnScripts(t *testing.T) {
	kinds := map[string]int{}
	for seed := range 300 {
		more := numbers(210000 + seed)
		var lines []string
		for range more.below(120) {
			lines = append(lines, drawnScriptLine(&more))
		}
		if seed%2 == 0 {
			lines = append(lines, "")
		}
		for _, line := range checkScript(t, lines...) {
			word, _, _ := strings.Cut(line, " ")
			kinds[word]++
		}
	}
	for _, word := range []string{"ok", "error", "bad", "reply", "end", ""} {
		if kinds[word] < 5 {
			t.Errorf("hardly answered: %q of %v", word, kinds)
		}
	}
}

// The same by the second program.
func TestP25DrawnScriptsAnew(t *testing.T) {
	for seed := range 60 {
		more := numbers(220000 + seed)
		var lines []string
		for range more.below(70) {
			lines = append(lines, drawnScriptLine(&more))
		}
		text := strings.Join(lines, "\n")
		want := scriptAsked(text, func(ops []impl.WorldOp) impl.WorldOut { return first(worldAsked(scriptWorld(), ops)) })
		if got := impl.RunScript(text); got != want {
			t.Fatalf("seed %d: RunScript(%q) = %q, want %q", seed, text, got, want)
		}
	}
}

// Each beginning of a script answers a beginning: nothing hangs on what comes behind it.
func TestP25EachBeginning(t *testing.T) {
	text := "ask POST /echo hello\ndeliver 0\nshow\n\nbad\ncalm 9\nask GET /part/x\nupdate 1\nlose\ntick 500000\ncalm 9\nshow\nclose 0 7\ncalm 1\n"
	whole := impl.RunScript(text)
	for at := range len(text) + 1 {
		part := text[:at]
		checkScript(t, part)
		if at == 0 || part[at-1] == '\n' {
			if got := impl.RunScript(part); !strings.HasPrefix(whole, got) {
				t.Errorf("RunScript(%q) = %q, which %q does not begin with", part, got, whole)
			}
		}
	}
}
