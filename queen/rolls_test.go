package queen_test

import (
	"fmt"
	"math/rand"
	"slices"
	"strings"
	"testing"

	"leazing/api"
	"leazing/queen"
)

// P10.2 and P10.4: scripts, and their rolls.

// ran returns what Run, and what Roll should return of a script whose lines are right.
func ran(script string) (told, roll string) {
	q := queen.New()
	for _, line := range linesOf(script) {
		if len(wordsIn(line)) == 0 {
			continue
		}
		c, _, _ := parsed(line)
		text, _ := printed(c)
		roll += "> " + text + "\n"
		for _, answer := range q.Do(c) {
			told += answer + "\n"
			roll += "< " + answer + "\n"
		}
	}
	return told, roll
}

// checkRun wants what a script, whose lines are right, tells, its roll, and what is opened of it; and P10.4.
func checkRun(t *testing.T, script string) string {
	t.Helper()
	told, roll := ran(script)
	wantAt(t, script, told, 0, api.OK)(queen.Run(script))
	wantAt(t, script, roll, 0, api.OK)(queen.Roll(script))
	wantError(t, roll, 0, api.OK)(queen.Accept(roll))
	text, said, at, e := queen.Open(roll)
	if said != told || at != 0 || e != api.OK || strings.Contains("\n"+text, "\n<") {
		t.Fatalf("Open of %s: %s, %s, %d, error %d", short(roll), short(text), short(said), at, e)
	}
	wantAt(t, text, roll, 0, api.OK)(queen.Roll(text))
	return roll
}

// loosened returns a script that says the same, with other lines and more spaces.
func loosened(r *rand.Rand, script string) string {
	text := ""
	for _, line := range linesOf(script) {
		for r.Intn(4) == 0 {
			text += oneOf(r, "", " ", "#", "# a remark", "#field 1 2 3 4", "      ") + "\n"
		}
		text += strings.Repeat(" ", r.Intn(2)) + strings.ReplaceAll(line, " ", oneOf(r, " ", "  ")) + strings.Repeat(" ", r.Intn(2)) + "\n"
	}
	return oneOf(r, text, strings.TrimSuffix(text, "\n"), text+"\n", text+"#\n\n")
}

// TestScripts: random scripts, also with lines that say nothing.
func TestScripts(t *testing.T) {
	rounds(50, 45, func(r *rand.Rand) {
		script := anyScript(r, oneOf(r, 1, 20, 60, 119, 120))
		if r.Intn(2) == 0 {
			next := themed(r)
			var all []api.Command
			for range 120 {
				all = append(all, next())
			}
			script = scriptOf(all...)
		}
		checkRun(t, script)
		roll := checkRun(t, loosened(r, script))
		wantAt(t, script, roll, 0, api.OK)(queen.Roll(script))
	})
}

// TestNoScript: scripts that say nothing.
func TestNoScript(t *testing.T) {
	for _, script := range list("", "\n", "\n\n\n", "#", "# blank\n", "   ", "   \n#\n") {
		wantAt(t, script, "", 0, api.OK)(queen.Run(script))
		wantAt(t, script, "", 0, api.OK)(queen.Roll(script))
	}
	wantError(t, "nothing", 0, api.OK)(queen.Accept(""))
	play(t, "blank", "ok")
	play(t, "blank\n", "ok")
	play(t, "\n\n  blank  \n#\nrecords", "ok", "records 0", "records 0", "records 0", "records 0", "records 0", "records 0")
}

// wantNoRun wants an error of a script.
func wantNoRun(t *testing.T, script string, at int, due api.Errno) {
	t.Helper()
	wantAt(t, script, "", at, due)(queen.Run(script))
	wantAt(t, script, "", at, due)(queen.Roll(script))
}

// TestManyLines: MaxLines lines that say something, and one more; lines that say nothing do not count.
func TestManyLines(t *testing.T) {
	most := strings.Repeat("blank\n", 120)
	checkRun(t, most)
	checkRun(t, strings.Repeat("\n# more\n   \nblank\n", 120))
	wantNoRun(t, most+"blank", 0, api.ErrLong)
	wantNoRun(t, most+"nothing", 0, api.ErrLong)
	wantNoRun(t, "nothing\n"+most, 0, api.ErrLong)
	wantNoRun(t, "nothing\n"+most[6:], 1, api.ErrWords)
	wantNoRun(t, most[6:]+"blank 1\n", 120, api.ErrWords)
}

// TestLongScripts: scripts of MaxScript bytes, and of one more.
func TestLongScripts(t *testing.T) {
	for _, script := range list("", "blank\n", strings.Repeat("hours\n", 120)) {
		for _, filling := range list(" ", "#", "\n") {
			most := script + strings.Repeat(filling, 25000-len(script))
			checkRun(t, most)
			wantNoRun(t, most+filling, 0, api.ErrLong)
			wantNoRun(t, most+"\n", 0, api.ErrLong)
		}
		wantNoRun(t, "nothing\n"+script+strings.Repeat("\n", 25001-8-len(script)), 0, api.ErrLong)
	}
}

// TestFirstErrors: the first line with an error decides; its number counts all lines.
func TestFirstErrors(t *testing.T) {
	long := "blank" + strings.Repeat(" ", 196)
	for _, c := range []struct {
		script string
		at     int
		e      api.Errno
	}{
		{"nothing", 1, api.ErrWords},
		{"blank\n\n#\nshare\nnothing\n", 4, api.ErrWords},
		{"blank\n" + long + "\nnothing\n", 2, api.ErrLong},
		{"\nblank 1\n" + long, 2, api.ErrWords},
		{"\n\n\n" + long, 4, api.ErrLong},
		{"blank\r\nblank\r\n", 1, api.ErrWords},
		{"blank\n\tblank\n", 2, api.ErrWords},
		{"blank\n #\n", 2, api.ErrWords},
		{"want 1 91\nwant 1 91 \nwant 1 +91\n", 3, api.ErrWords},
	} {
		wantNoRun(t, c.script, c.at, c.e)
	}
	// Lines that say nothing may be longer.
	checkRun(t, "#"+strings.Repeat("x", 500)+"\n"+strings.Repeat(" ", 500)+"\nblank\n")
	checkRun(t, "blank"+strings.Repeat(" ", 195)+"\n")
}

// TestNothingIsDone: with an error nothing is told of the lines before it.
func TestNothingIsDone(t *testing.T) {
	wantNoRun(t, "blank\nblank\nblank 1\n", 3, api.ErrWords)
}

// longScript returns a script whose roll has 399973 + more bytes, for more from 0 to 63: that many families may have had what surely left the last one of them.
func longScript(more int) string {
	var script strings.Builder
	for n := range 30 {
		fmt.Fprintf(&script, "hoard 0 %d %d 99 0 1\n", 1000+n, n)
	}
	for n := range 28 {
		fmt.Fprintf(&script, "pass 0 4166 0 %d %d 0 10000 0\n", 10+n, 11+n)
	}
	script.WriteString("pass 0 4166 0 38 0 10000 10000 0\n" + strings.Repeat("fence 0 4166\n", 53) + "fence 0 3\n")
	for range 7 {
		digits := min(more, 9)
		script.WriteString("hear 1" + strings.Repeat("0", digits) + "\n")
		more -= digits
	}
	return script.String()
}

// TestLongRolls: rolls of MaxRoll bytes, and of one more.
func TestLongRolls(t *testing.T) {
	for _, more := range list(0, 26, 27) {
		if roll := checkRun(t, longScript(more)); len(roll) != 399973+more {
			t.Fatal("the roll has another length:", len(roll))
		}
	}
	for _, more := range list(28, 29, 63) {
		script := longScript(more)
		told, roll := ran(script)
		if len(roll) != 399973+more {
			t.Fatal("the roll has another length:", len(roll))
		}
		wantAt(t, more, told, 0, api.OK)(queen.Run(script))
		wantAt(t, more, "", 0, api.ErrLong)(queen.Roll(script))
		wantError(t, more, 0, api.ErrLong)(queen.Accept(roll))
		text, said, at, e := queen.Open(roll)
		if text != "" || said != "" || at != 0 || e != api.ErrLong {
			t.Errorf("Open: %d bytes, %d bytes, %d, error %d", len(text), len(said), at, e)
		}
	}
	// The errors of Run come first.
	wantAt(t, "lines", "", 0, api.ErrLong)(queen.Roll(longScript(63) + "blank\n"))
	wantAt(t, "words", "", 120, api.ErrWords)(queen.Roll(strings.TrimSuffix(longScript(63), "\n") + "0\n"))
}

// TestOpen: what is opened of texts that are rolls, and of such that are none.
func TestOpen(t *testing.T) {
	for _, c := range []struct {
		roll, text, told string
		at               int
		e                api.Errno
	}{
		{"", "", "", 0, api.OK},
		{"> ", "\n", "", 0, api.OK},
		{"< ", "", "\n", 0, api.OK},
		{"> \n< \n", "\n", "\n", 0, api.OK},
		{"< a\n> b\n< c\n<  d \n> > e\n< < f", "b\n> e\n", "a\nc\n d \n< f\n", 0, api.OK},
		{"> #\n< \xff\x00\r\n", "#\n", "\xff\x00\r\n", 0, api.OK},
		{"\n", "", "", 1, api.ErrRoll},
		{"> a\n\n", "", "", 2, api.ErrRoll},
		{"> a\n< b\n>c\nd\n", "", "", 3, api.ErrRoll},
		{">", "", "", 1, api.ErrRoll},
		{"<", "", "", 1, api.ErrRoll},
		{"> a\n <  b\n", "", "", 2, api.ErrRoll},
		{"> a\n# b\n", "", "", 2, api.ErrRoll},
		{"a > b", "", "", 1, api.ErrRoll},
	} {
		text, told, at, e := queen.Open(c.roll)
		if text != c.text || told != c.told || at != c.at || e != c.e {
			t.Errorf("%q: %q, %q, %d, error %d, want %q, %q, %d, error %d", c.roll, text, told, at, e, c.text, c.told, c.at, c.e)
		}
		if c.e != api.OK {
			wantError(t, c.roll, c.at, c.e)(queen.Accept(c.roll))
		}
	}
	for _, filling := range list("x", "\n< ", "\n> ", "\n") {
		roll := "< " + strings.Repeat("y", 399998%len(filling)) + strings.Repeat(filling, 399998/len(filling))
		text, told, _, e := queen.Open(roll)
		if filling != "\n" && (e != api.OK || len(text)+len(told) < 130000) || filling == "\n" && e != api.ErrRoll {
			t.Errorf("%q: %d bytes, %d bytes, error %d", filling, len(text), len(told), e)
		}
		if text, told, at, e := queen.Open(roll + "x"); text != "" || told != "" || at != 0 || e != api.ErrLong {
			t.Errorf("%q: %d bytes, %d bytes, %d, error %d", filling, len(text), len(told), at, e)
		}
	}
}

// TestOpenRandom: whatever the lines are.
func TestOpenRandom(t *testing.T) {
	rounds(51, 500, func(r *rand.Rand) {
		roll, text, told, at := "", "", "", 0
		for n := range r.Intn(20) {
			line := oneOf(r, "", "a", " ", "> ", "< b", "ok", "#")
			before := oneOf(r, "> ", "< ", "> ", "< ", "> ", "< ", "> ", "< ", "> ", "< ", "> ", "< ", "", ">", " < ")
			roll += before + line + "\n"
			switch {
			case strings.HasPrefix(before+line, "> "):
				text += (before + line)[2:] + "\n"
			case strings.HasPrefix(before+line, "< "):
				told += (before + line)[2:] + "\n"
			case at == 0:
				at = n + 1
			}
		}
		due := api.OK
		if at > 0 {
			text, told, due = "", "", api.ErrRoll
		}
		a, b, no, e := queen.Open(roll)
		if !slices.Equal(list(a, b), list(text, told)) || no != at || e != due {
			t.Fatalf("%q: %q, %q, %d, error %d", roll, a, b, no, e)
		}
	})
}

// TestAnyTexts: P1: whatever a text is, nothing panics, and with an error nothing else is returned.
func TestAnyTexts(t *testing.T) {
	known := map[api.Errno]bool{}
	rounds(52, 3000, func(r *rand.Rand) {
		text := ""
		for range r.Intn(12) {
			line, _ := printed(anyCommand(r))
			text += oneOf(r, "> ", "> ", "> ", "< ", "", "", "#", ">")
			text += oneOf(r, line, line, line, "ok", "none", "0 1", "", "\xff\x00", strings.Repeat(" 1", r.Intn(120)), strings.Repeat("-", r.Intn(300)))
			text += oneOf(r, "\n", "\n", "\n", "\n", "\n", "\r\n", "", " \n", "\n\n")
		}
		told, at, e := queen.Run(text)
		roll, no, f := queen.Roll(text)
		if e != f || at != no || e != api.OK && (told != "" || roll != "") || e == api.OK && at != 0 {
			t.Fatalf("%q: %q, %d, error %d; %q, %d, error %d", text, told, at, e, roll, no, f)
		}
		script, said, no, f := queen.Open(text)
		if f != api.OK && script+said != "" || f == api.OK && no != 0 {
			t.Fatalf("%q: %q, %q, %d, error %d", text, script, said, no, f)
		}
		no, g := queen.Accept(text)
		if f != api.OK && g != f || g == api.OK && (no != 0 || text != "" && !strings.HasSuffix(text, "\n")) {
			t.Fatalf("%q: %d, error %d, beside the error %d", text, no, g, f)
		}
		known[e], known[g] = true, true
	})
	for _, e := range list(api.OK, api.ErrLong, api.ErrWords, api.ErrSaid, api.ErrRoll) {
		if !known[e] {
			t.Error("tried:", e, known)
		}
	}
}
