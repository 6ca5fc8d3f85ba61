package bell_test

import (
	"math/rand"
	"slices"
	"strconv"
	"strings"
	"testing"

	"leazing/api"
	"leazing/bell"
)

// P9.1 and P9.6: texts, those that are printed and others.

const exampleText = "wants 7 1\ntally 7 0 1\nasked 7 3 99999\nbell 7 1\nbell 99 0\n"

func exampleStrokes() []api.Stroke {
	return list(wants(7, 1), tally(7, 0, 1), asked(7, 3, 99999), bells(7, 1), bells(99, 0))
}

// wantParse wants what a text is parsed to.
func wantParse(t *testing.T, text string, l []api.Stroke, line int, due api.Errno) {
	t.Helper()
	got, n, e := bell.Parse(text)
	if e != due || n != line || !slices.Equal(got, l) {
		t.Errorf("Parse of %q: %s, %d, error %d, want %s, %d, error %d", short(text), short(got), n, e, short(l), line, due)
	}
}

func wantParsed(t *testing.T, text string, l []api.Stroke) {
	t.Helper()
	wantParse(t, text, l, 0, api.OK)
}

// wantWrong wants a text to have an error, and nothing beside it but the number of a line.
func wantWrong(t *testing.T, text string, line int, due api.Errno) {
	t.Helper()
	wantParse(t, text, nil, line, due)
}

func TestPrint(t *testing.T) {
	want(t, "the example", exampleText, api.OK)(bell.Print(exampleStrokes()))
	want(t, "nothing", "", api.OK)(bell.Print(nil))
	want(t, "one of another kind", "", api.ErrStroke)(bell.Print(append(exampleStrokes(), api.Stroke{Kind: 5, Field: 7, No: 1})))
}

// spaced returns a text with more spaces, and lines that say nothing.
func spaced(r *rand.Rand, text string) string {
	var more strings.Builder
	for _, line := range strings.Split(text, "\n") {
		more.WriteString(oneOf(r, "", "\n", "   \n", "#\n", "# tally 1\n", "#\tx\r\n"))
		more.WriteString(oneOf(r, "", " ", "   "))
		more.WriteString(strings.ReplaceAll(line, " ", oneOf(r, " ", "  ", "    ")))
		more.WriteString(oneOf(r, "", " ", "   ") + "\n")
	}
	return more.String()
}

// TestParseOfPrint: P9.6.
func TestParseOfPrint(t *testing.T) {
	rounds(50, 3000, func(r *rand.Rand) {
		l := anyStrokes(r)
		if r.Intn(2) == 0 {
			l = someWatch(r).Strokes
		}
		text := must[string](t, l)(bell.Print(l))
		wantParsed(t, text, l)
		wantParsed(t, strings.TrimSuffix(text, "\n"), l)
		if more := spaced(r, text); len(more) <= 8000 {
			wantParsed(t, more, l)
		}
	})
	longest := slices.Repeat(list(tally(99, 5, 99999), asked(10, 0, 10000)), 60)
	wantParsed(t, must[string](t, longest)(bell.Print(longest)), longest)
}

func TestParseForm(t *testing.T) {
	wantParsed(t, exampleText, exampleStrokes())
	wantParsed(t, "", nil)
	wantParsed(t, "\n\n  \n#", nil)
	for _, line := range list(
		"tally", "wants", "asked", "bell", "tally 7", "tally 7 0", "tally 7 0 1 1", "wants 7", "wants 7 0 1", "asked 7 1", "asked 7 0 1 0", "bell 7", "bell 7 0 1", "bell 1",
		"Tally 7 0 1", "tallies 7 0 1", "tall 7 0 1", "want 7 1", "wanted 7 1", "ask 7 0 1", "bells 7 1", "BELL 7 1", "rope 7 1", "7 0 1", "7 tally 0 1", "7",
		"tally 07 0 1", "tally 7 00 1", "asked 7 0 01", "wants 7 00001", "wants 000007 1", "bell 7 00", "wants +7 1", "wants 7 +1", "bell 7 -1", "bell -7 1", "bell 7 -0", "tally 7 -0 1", "tally 7 0 -1",
		"wants 7 100000", "wants 100000 1", "tally 7 123456 1", "asked 7 0 999999", "bell 7 99999999999999999999", "bell 7 -99999999999999999999",
		"bell 7 x", "bell 7 1x", "bell x7 1", "bell 7 1.0", "wants 7 1_0", "wants 7 0x1", "wants 7 1e2", "wants 7 :", "wants 7 /", "wants 7 \u0663", "bell 7,1", "bell 7 1 #", " # bell", "bell",
		"bell\t7 1", "bell 7\t1", "bell 7 1\r", "bell 7 1\x00", "bell\u00a07 1", "bell\v7 1", "\t", "\r", "\xff", "bell 7 1\xff", "\ufeffbell 7 1",
	) {
		wantWrong(t, line, 1, api.ErrText)
		wantWrong(t, line+"\n", 1, api.ErrText)
		wantWrong(t, "# a\n\n"+exampleText+"  \n"+line+"\nbell\n", 9, api.ErrText)
		wantWrong(t, "bell 7 2\n"+line, 2, api.ErrText) // before what is not valid
	}
}

// TestParseInvalid: lines that are of the right form, and say no valid strokes.
func TestParseInvalid(t *testing.T) {
	for _, line := range list(
		"tally 0 0 1", "tally 100 0 1", "tally 99999 0 1", "tally 7 6 1", "tally 7 99999 1", "tally 7 0 0",
		"wants 0 1", "wants 100 1", "wants 7 0", "asked 0 0 1", "asked 7 6 1", "asked 7 0 0", "bell 0 1", "bell 100 0", "bell 7 2", "bell 7 99999",
	) {
		wantWrong(t, line, 0, api.ErrStroke)
		wantWrong(t, exampleText+line+"\n# the end\n", 0, api.ErrStroke)
		wantWrong(t, line+"\nbell\n", 2, api.ErrText)
	}
	for n := 119; n < 123; n++ {
		l := slices.Repeat(list(wants(7, 1)), n)
		text := strings.Repeat("wants 7 1\n", n)
		wantParse(t, text, none(n <= 120, l), 0, verdict(n <= 120, api.ErrStroke))
		wantWrong(t, text+"wants 7", n+1, api.ErrText)
	}
}

func TestParseLong(t *testing.T) {
	short := strings.Repeat("#", 8000-len(exampleText)-1) + "\n" + exampleText
	wantParsed(t, short, exampleStrokes())
	wantWrong(t, "#"+short, 0, api.ErrLong)
	wantWrong(t, strings.Repeat("\n", 8001), 0, api.ErrLong)
	wantWrong(t, strings.Repeat("x", 8001), 0, api.ErrLong) // before ErrText
	wantWrong(t, strings.Repeat("bell 7 2\n", 889), 0, api.ErrLong)
	wantWrong(t, strings.Repeat("bell 7 2\n", 888), 0, api.ErrStroke)
	wantWrong(t, strings.Repeat("x\n", 4000), 1, api.ErrText)
	wantWrong(t, strings.Repeat("\n", 7999)+"x", 8000, api.ErrText)
	wantParsed(t, strings.Repeat("\n", 8000), nil)
	wantParsed(t, strings.Repeat(" ", 8000), nil)
}

// TestParseNumbers: all numbers that are near the limits, with zeros in front and without.
func TestParseNumbers(t *testing.T) {
	for _, n := range list(0, 1, 9, 10, 99, 100, 9999, 10000, 99998, 99999, 100000, 100001, 999999) {
		for zeros := range 5 {
			word := strings.Repeat("0", zeros) + strconv.Itoa(n)
			text := "asked 7 0 " + word
			switch {
			case zeros > 0 || n > 99999:
				wantWrong(t, text, 1, api.ErrText)
			case n == 0:
				wantWrong(t, text, 0, api.ErrStroke)
			default:
				wantParsed(t, text, list(asked(7, 0, n)))
			}
		}
	}
}

// TestParseAny: P1: texts of all kinds of bytes are parsed, or have an error; what is parsed is printed as an equal one.
func TestParseAny(t *testing.T) {
	pieces := list("tally ", "wants ", "asked ", "bell ", "7 ", "1 ", "0 ", "1", "0", "\n", "\n", " ", "#", "\xff", "\t", "-", "bell 7 1\n", "wants 7 12\n", "tally 7 0 1\n", "asked 1 5 3\n", "99999 ", "100000 ", "bell 7 2\n", "wants 0 1\n")
	count := map[api.Errno]int{}
	rounds(51, 30000, func(r *rand.Rand) {
		var text strings.Builder
		for range r.Intn(9) {
			text.WriteString(oneOf(r, pieces...))
		}
		l, line, e := parsed(text.String())
		wantParse(t, text.String(), l, line, e)
		count[e]++
		if e == api.OK {
			wantParsed(t, must[string](t, l)(bell.Print(l)), l)
		}
	})
	if count[api.OK] < 1000 || count[api.ErrText] < 1000 || count[api.ErrStroke] < 50 {
		t.Error("tried:", count)
	}
}
