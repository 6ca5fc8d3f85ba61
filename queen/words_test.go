package queen_test

import (
	"math"
	"math/rand"
	"slices"
	"strings"
	"testing"

	"leazing/api"
	"leazing/queen"
)

// P10.1: lines and commands.

// checkLine wants what Parse returns of a line; if it is a command, P10.1.
func checkLine(t *testing.T, line string) bool {
	t.Helper()
	c, at, e := parsed(line)
	wantAt(t, line, c, at, e)(queen.Parse(line))
	if e != api.OK {
		return false
	}
	text, _ := printed(c)
	want(t, c, text, api.OK)(queen.Print(c))
	wantAt(t, text, c, 0, api.OK)(queen.Parse(text))
	return true
}

// TestEachWord: each word with as many numbers as the table says, one less, and more.
func TestEachWord(t *testing.T) {
	if len(usages) != 72 {
		t.Fatal("words:", len(usages))
	}
	for _, u := range usages {
		n := len(u.names)
		for given := range n + 4 {
			line := strings.Join(append(list(u.word), slices.Repeat(list("7"), given)...), " ")
			if checkLine(t, line) != (given == n) {
				t.Errorf("%q: %d numbers", line, given)
			}
			_, at, e := queen.Parse(line)
			switch {
			case given < n && (e != api.ErrWords || at != given+1):
				t.Errorf("%q: %d, error %d", line, at, e)
			case given > n && (e != api.ErrWords || at != n+1):
				t.Errorf("%q: %d, error %d", line, at, e)
			}
		}
		c, at, e := queen.Parse(strings.TrimSpace(u.word + strings.Repeat(" 7", n)))
		if at != 0 || e != api.OK || c.Kind != u.kind || !slices.Equal(c.Args, slices.Repeat(list(7), n)) {
			t.Errorf("%s: %+v, %d, error %d", u.word, c, at, e)
		}
	}
}

// TestEachNumber: each number of each word, as it may be written, and as it may not.
func TestEachNumber(t *testing.T) {
	right := list("0", "1", "9", "10", "-1", "-10", "999999999", "1000000000", "-1000000000", "-999999999")
	wrong := list(
		"-0", "00", "01", "-01", "+1", "+0", "1000000001", "-1000000001", "2147483648", "9223372036854775807", "9223372036854775808",
		"-9223372036854775808", "18446744073709551616", "18446744073709551617", "99999999999999999999999", "1.0", "1e3", "0x1", "1_000",
		"-", "--1", "one", "1-", "1,", "\t1", "1\t", "1\n", "1\r", "١", "1\x00", "\u00a01", "#", "#1",
	)
	for _, u := range usages {
		for i := range u.names {
			numbers := slices.Repeat(list("3"), len(u.names))
			for _, text := range right {
				numbers[i] = text
				if line := u.word + " " + strings.Join(numbers, " "); !checkLine(t, line) {
					t.Errorf("%q", line)
				}
			}
			for _, text := range wrong {
				numbers[i] = text
				line := u.word + " " + strings.Join(numbers, " ")
				if c, at, e := queen.Parse(line); e != api.ErrWords || at != i+1 || !same(c, api.Command{}) {
					t.Errorf("%q: %+v, %d, error %d", line, c, at, e)
				}
			}
		}
	}
}

// TestNoWords: lines that say nothing, and words that are none of the table.
func TestNoWords(t *testing.T) {
	for _, line := range list(
		"", " ", "     ", "#", "# blank", "#blank", "# ", "Blank", "BLANK", "blan", "blanks", "blank\n", "blank\r", "blank\t", "\tblank",
		" #", " # blank", "7", "0", "-1", "> blank", "< ok", "field\t1 2 3 4", "\x00", "é", "\xff\xfe", "PARISH", "record 0 0",
	) {
		if checkLine(t, line) {
			t.Errorf("%q is no command", line)
		}
		wantAt(t, line, api.Command{}, 0, api.ErrWords)(queen.Parse(line))
	}
	for _, line := range list("blank ", " blank", "   blank   ") {
		wantAt(t, line, command(api.CmdBlank), 0, api.OK)(queen.Parse(line))
	}
	wantAt(t, "spaces", command(api.CmdFlour, -1, 0), 0, api.OK)(queen.Parse("  flour   -1     0  "))
	wantAt(t, "a remark behind", api.Command{}, 1, api.ErrWords)(queen.Parse("blank # a remark"))
	wantAt(t, "the first one", api.Command{}, 2, api.ErrWords)(queen.Parse("open 0 x y z"))
	wantAt(t, "too many, and wrong", api.Command{}, 2, api.ErrWords)(queen.Parse("share 0 x y"))
}

// TestLongLines: lines of MaxLine bytes, and of one more.
func TestLongLines(t *testing.T) {
	for _, text := range list("blank", "share 7", "", "#", "nothing", "open 1 2", "blank 1") {
		for _, n := range list(199, 200, 201, 202, 1000) {
			line := text + strings.Repeat(" ", n-len(text))
			checkLine(t, line)
			if n > 200 {
				wantAt(t, n, api.Command{}, 0, api.ErrLong)(queen.Parse(line))
			}
		}
	}
	wantAt(t, "zeros", api.Command{}, 1, api.ErrWords)(queen.Parse("share " + strings.Repeat("9", 194)))
	wantAt(t, "words", api.Command{}, 0, api.ErrLong)(queen.Parse("share " + strings.Repeat("9", 195)))
	// The longest line that is printed is shorter than that.
	line := must[string](t, "the longest line")(queen.Print(command(api.CmdProof, slices.Repeat(list(-1000000000), 10)...)))
	if len(line) != 5+10*12 {
		t.Error(len(line))
	}
	checkLine(t, line)
}

// TestPrintRefuses: commands that are not right.
func TestPrintRefuses(t *testing.T) {
	for kind := -3; kind < 110; kind++ {
		for n := range 12 {
			c := command(kind, slices.Repeat(list(5), n)...)
			text, e := printed(c)
			want(t, c, text, e)(queen.Print(c))
		}
	}
	for _, u := range usages {
		for i := range u.names {
			for _, n := range list(1000000001, -1000000001, math.MaxInt, math.MinInt, 1<<32) {
				c := command(u.kind, slices.Repeat(list(5), len(u.names))...)
				c.Args[i] = n
				want(t, c, "", api.ErrWords)(queen.Print(c))
			}
		}
	}
	want(t, "a kind", "", api.ErrWords)(queen.Print(command(math.MinInt)))
	want(t, "a kind", "", api.ErrWords)(queen.Print(command(math.MaxInt)))
}

// TestRandomLines: lines that are put together, and spoilt.
func TestRandomLines(t *testing.T) {
	right := 0
	rounds(20, 6000, func(r *rand.Rand) {
		line, _ := printed(anyCommand(r))
		for range r.Intn(4) {
			i := r.Intn(len(line) + 1)
			line = line[:i] + oneOf(r, " ", " ", "  ", "0", "-", "7", "x", "#", "\t", " 7 ") + line[i:]
		}
		if r.Intn(8) == 0 {
			i := r.Intn(len(line) + 1)
			line = line[:i] + line[min(len(line), i+1+r.Intn(3)):]
		}
		if checkLine(t, line) {
			right++
		}
	})
	if right < 1500 || right > 4500 {
		t.Error("tried:", right)
	}
}

// TestRandomCommands: P10.1, of right commands with any numbers.
func TestRandomCommands(t *testing.T) {
	rounds(21, 3000, func(r *rand.Rand) {
		u := oneOf(r, usages...)
		c := command(u.kind)
		for range u.names {
			c.Args = append(c.Args, oneOf(r, odd(r), r.Intn(2000000001)-1000000000, r.Intn(100)-50))
		}
		text, _ := printed(c)
		want(t, c, text, api.OK)(queen.Print(c))
		wantAt(t, text, c, 0, api.OK)(queen.Parse(text))
	})
}
