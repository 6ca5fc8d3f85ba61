package sack_test

import (
	"math/rand"
	"slices"
	"strconv"
	"strings"
	"testing"

	"leazing/api"
	"leazing/sack"
)

// P6.1 and P6.9: texts, those that are printed and others.

const exampleText = "pass 1 0 3 10 40 60 77 0 0\n" +
	"pass 2 0 5 10 20 30 0 0 0\n" +
	"pass 3 3 5 20 0 30 0 0 0\n" +
	"pass 4 5 0 30 50 70 0 0 0\n" +
	"hoard 11 3 20 25 40 0 0\n" +
	"hoard 12 5 30 0 5 9 0\n" +
	"hoard 13 3 10 0 39 12 0\n"

// wantParsed wants a text to be that of sacks.
func wantParsed(t *testing.T, text string, s api.Sacks) {
	t.Helper()
	got, line, e := sack.Parse(text)
	if e != api.OK || line != 0 || !same(got, s) {
		t.Errorf("Parse of %q: %+v, %d, error %d", text, got, line, e)
	}
}

// wantWrong wants a text to have an error, and nothing beside it but the number of a line.
func wantWrong(t *testing.T, text string, line int, wantError api.Errno) {
	t.Helper()
	got, n, e := sack.Parse(text)
	if e != wantError || n != line || !same(got, api.Sacks{}) {
		t.Errorf("Parse of %q: %+v, %d, error %d, want %d, error %d", text, got, n, e, line, wantError)
	}
}

func TestPrint(t *testing.T) {
	want(t, "the example", exampleText, api.OK)(sack.Print(example()))
	want(t, "nothing", "", api.OK)(sack.Print(api.Sacks{}))
	last := longest(1)
	want(t, "the last of all", "pass 99999 0 99 4166 10000 10000 99999 4165 4166\nhoard 99999 99 4166 10000 10000 4165 4166\n", api.OK)(sack.Print(last))
	last.Hoards[0].Until = 4167
	want(t, "a wrong hoard", "", api.ErrSacks)(sack.Print(last))
	last = longest(1)
	last.Passes[0].Cert = 100000
	want(t, "a wrong pass", "", api.ErrSacks)(sack.Print(last))
}

// longest returns sacks of so many passes and hoards, with the greatest numbers that can be.
func longest(n int) api.Sacks {
	var s api.Sacks
	for i := range n {
		s.Passes = append(s.Passes, api.Pass{Source: 100000 - n + i, To: 99, Day: 4166, Gallons: span(10000, 10000), Cert: 99999, Known: 4165, Until: 4166})
		s.Hoards = append(s.Hoards, api.Hoard{Source: 100000 - n + i, Family: 99, Day: 4166, Gallons: span(10000, 10000), Known: 4165, Until: 4166})
	}
	return s
}

// TestParseOfPrint: P6.9.
func TestParseOfPrint(t *testing.T) {
	check := func(r *rand.Rand, s api.Sacks, known int) {
		text := must[string](t, s)(sack.Print(s))
		wantParsed(t, text, s)
		wantParsed(t, strings.TrimSuffix(text, "\n"), s)
		lines := strings.SplitAfter(text, "\n")
		slices.SortStableFunc(lines, func(a, b string) int { return strings.Compare(a[:min(1, len(a))], b[:min(1, len(b))]) })
		wantParsed(t, strings.Join(lines, ""), s) // the hoards first
		if spaces := spaced(r, text); len(spaces) <= 12000 {
			wantParsed(t, spaces, s)
		}
	}
	sacks(20, 300, small, check)
	sacks(21, 100, great, check)
	all := longest(60)
	wantParsed(t, must[string](t, all)(sack.Print(all)), all)
	for i := range all.Passes {
		all.Passes[i].From, all.Passes[i].Cert = 98, 0
	}
	wantParsed(t, must[string](t, all)(sack.Print(all)), all)
}

// spaced returns a text with more spaces, and lines that say nothing.
func spaced(r *rand.Rand, text string) string {
	var more strings.Builder
	for _, line := range strings.Split(text, "\n") {
		more.WriteString([]string{"", "\n", "   \n", "#\n", "# pass 1\n", "#\tx\r\n"}[r.Intn(6)])
		more.WriteString([]string{"", " ", "   "}[r.Intn(3)])
		more.WriteString(strings.ReplaceAll(line, " ", []string{" ", "  ", "    "}[r.Intn(3)]))
		more.WriteString([]string{"", " ", "   "}[r.Intn(3)] + "\n")
	}
	return more.String()
}

func TestParseOrder(t *testing.T) {
	wantParsed(t, exampleText, example())
	wantParsed(t, "", api.Sacks{})
	wantParsed(t, "\n\n  \n#", api.Sacks{})
	// The kinds may be mixed; those of one kind stand in the order of their lines, which is that of their sources.
	wantParsed(t, "hoard 5 1 0 0 0 0 0\npass 3 0 1 0 0 0 0 0 0\nhoard 6 1 0 0 0 0 0\npass 5 1 0 0 0 0 0 0 0", api.Sacks{
		Passes: []api.Pass{{Source: 3, To: 1}, {Source: 5, From: 1}},
		Hoards: []api.Hoard{{Source: 5, Family: 1}, {Source: 6, Family: 1}},
	})
	wantWrong(t, "pass 10 0 1 0 0 0 0 0 0\nhoard 1 1 0 0 0 0 0\npass 9 0 1 0 0 0 0 0 0\n", 0, api.ErrSacks)
	wantWrong(t, "hoard 9 1 0 0 0 0 0\nhoard 9 1 0 0 0 0 0\n", 0, api.ErrSacks)
}

func TestParseForm(t *testing.T) {
	for _, line := range []string{
		"pass", "hoard", "pass 1", "pass 1 0 3 10 40 60 77 0", "pass 1 0 3 10 40 60 77 0 0 0", "pass 1 0 3 10 40 60 0", "hoard 11 3 20 25 40 0", "hoard 11 3 20 25 40 0 0 0", "hoard 11 3 20 25 40 0 0 0 0",
		"Pass 1 0 3 10 40 60 77 0 0", "passes 1 0 3 10 40 60 77 0 0", "pas 1 0 3 10 40 60 77 0 0", "hoards 11 3 20 25 40 0 0", "1 0 3 10 40 60 77 0 0", "1 pass 0 3 10 40 60 77 0 0",
		"pass 01 0 3 10 40 60 77 0 0", "pass 1 00 3 10 40 60 77 0 0", "pass +1 0 3 10 40 60 77 0 0", "pass -1 0 3 10 40 60 77 0 0", "pass 1 -0 3 10 40 60 77 0 0", "hoard 11 3 20 25 40 0 -0", "hoard -11 3 20 25 40 0 0",
		"pass : 0 3 10 40 60 77 0 0", "pass / 0 3 10 40 60 77 0 0", "pass 1: 0 3 10 40 60 77 0 0", "pass 1x 0 3 10 40 60 77 0 0", "pass 1.0 0 3 10 40 60 77 0 0", "pass 1_0 0 3 10 40 60 77 0 0", "pass 0x1 0 3 10 40 60 77 0 0", "pass 1e2 0 3 10 40 60 77 0 0", "pass \u0663 0 3 10 40 60 77 0 0",
		"pass 100000 0 3 10 40 60 77 0 0", "pass 123456 0 3 10 40 60 77 0 0", "hoard 000011 3 20 25 40 0 0", "hoard 99999999999999999999 3 20 25 40 0 0",
		"pass\t1 0 3 10 40 60 77 0 0", "hoard 11 3 20 25 40 0 0\r", "hoard 11 3 20 25 40 0\t0", "hoard 11 3 20 25 40 0 0\x00", "hoard 11\u00a03 20 25 40 0 0", "hoard 11\v3 20 25 40 0 0",
		"hoard 11 3 20 25 40 0 0 #", " # hoard", "\t", "\r", "\xff", "hoard 11 3 20 25 40 0 0\xff", "\ufeffhoard 11 3 20 25 40 0 0",
	} {
		wantWrong(t, line, 1, api.ErrText)
		wantWrong(t, line+"\n", 1, api.ErrText)
		wantWrong(t, "# a\n\n"+exampleText+"  \n"+line+"\npass\n", 11, api.ErrText)
		wantWrong(t, "pass 0 0 0 0 0 0 0 0 0\n"+line, 2, api.ErrText) // before what is not valid
	}
}

func TestParseInvalid(t *testing.T) {
	for _, line := range []string{
		"pass 0 0 3 10 40 60 77 0 0", "pass 1 3 3 10 40 60 0 0 0", "pass 1 0 100 10 40 60 77 0 0", "pass 1 3 0 10 40 60 77 0 0", "pass 1 0 3 4167 40 60 77 0 0", "pass 1 0 3 10 61 60 77 0 0", "pass 1 0 3 10 40 10001 77 0 0", "pass 1 0 3 10 40 99999 77 0 0", "pass 1 0 3 10 40 60 77 5 5", "pass 1 0 3 10 40 60 77 0 4167",
		"hoard 0 3 20 25 40 0 0", "hoard 11 0 20 25 40 0 0", "hoard 11 3 4167 25 40 0 0", "hoard 11 3 20 41 40 0 0", "hoard 11 3 20 25 40 7 6",
	} {
		wantWrong(t, line, 0, api.ErrSacks)
		wantWrong(t, line+"\n# the end\n", 0, api.ErrSacks)
		wantWrong(t, line+"\nhoard\n", 2, api.ErrText)
	}
	for n := 60; n <= 61; n++ {
		var passes, hoards strings.Builder
		for i := range n {
			passes.WriteString("pass " + strconv.Itoa(i+1) + " 0 1 0 0 0 0 0 0\n")
			hoards.WriteString("hoard " + strconv.Itoa(i+1) + " 1 0 0 0 0 0\n")
		}
		for _, text := range []string{passes.String(), hoards.String()} {
			_, line, e := sack.Parse(text)
			if wanted := verdict(n == 60, api.ErrSacks); e != wanted || line != 0 {
				t.Errorf("%d lines: %d, error %d", n, line, e)
			}
		}
	}
}

func TestParseLong(t *testing.T) {
	short := strings.Repeat("#", 12000-len(exampleText)-1) + "\n" + exampleText
	wantParsed(t, short, example())
	wantWrong(t, "#"+short, 0, api.ErrLong)
	wantWrong(t, strings.Repeat("\n", 12001), 0, api.ErrLong)
	wantWrong(t, strings.Repeat("x", 12001), 0, api.ErrLong) // before ErrText
	wantWrong(t, strings.Repeat("x\n", 6000), 1, api.ErrText)
	wantWrong(t, strings.Repeat("\n", 11999)+"x", 12000, api.ErrText)
	wantParsed(t, strings.Repeat("\n", 12000), api.Sacks{})
	wantParsed(t, strings.Repeat(" ", 12000), api.Sacks{})
}

// TestParseAny: P1: texts of all kinds of bytes are parsed, or have an error; what is parsed is printed as an equal one.
func TestParseAny(t *testing.T) {
	r := rand.New(rand.NewSource(22))
	pieces := []string{"pass ", "hoard ", "1 ", "2 ", "0 ", "00", "\n", "\n", " ", "#", "\xff", "\t", "pass 1 0 ", "pass 2 0 ", "hoard 3 ", "hoard 4 ", "1 0 0 0 0 0 0\n", "2 5 5 6 0 0 0\n", "9 0 0 0 0 0\n", "pass 5 1 0 3 4 5 0 6 0\n", "hoard 6 1 2 3 4 5 6", "hoard 5 2 1 2 3 4 5\n"}
	parsed := 0
	for range 20000 {
		var text strings.Builder
		for range r.Intn(9) {
			text.WriteString(pieces[r.Intn(len(pieces))])
		}
		s, line, e := sack.Parse(text.String())
		if e != api.OK {
			if !same(s, api.Sacks{}) || (e == api.ErrText) != (line > 0) || e != api.ErrText && e != api.ErrSacks {
				t.Fatalf("Parse of %q: %+v, %d, error %d", text.String(), s, line, e)
			}
			continue
		}
		wantParsed(t, must[string](t, s)(sack.Print(s)), s)
		if len(s.Passes)+len(s.Hoards) > 0 {
			parsed++
		}
	}
	if parsed < 100 {
		t.Error("too few were parsed:", parsed)
	}
}
