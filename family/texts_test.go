package family_test

import (
	"math/rand"
	"slices"
	"strconv"
	"strings"
	"testing"

	"leazing/api"
	"leazing/family"
)

// P3.1 and P3.7: texts, those that are printed and others.

const exampleText = "stay 1 10 3 0 0 100 100 0 0\n" +
	"stay 2 11 3 0 0 100 100 0 0\n" +
	"stay 3 12 5 0 10 90 100 0 0\n" +
	"stay 4 11 7 40 50 60 60 0 0\n" +
	"bond 20 5 3 20 30 70 70 8 0\n" +
	"away 30 10 0 50 50 52 55 0 0\n" +
	"away 31 12 10 0 0 100 100 0 0\n" +
	"offence 40 11 9 5 0\n"

// wantKin wants a text to be that of a kin.
func wantKin(t *testing.T, text string, k api.Kin) {
	t.Helper()
	got, line, e := family.Parse(text)
	if e != api.OK || line != 0 || !sameKin(got, k) {
		t.Errorf("Parse of %q: %+v, %d, error %d", text, got, line, e)
	}
}

// wantWrong wants a text to have an error, and nothing beside it but the number of a line.
func wantWrong(t *testing.T, text string, line int, wantError api.Errno) {
	t.Helper()
	got, n, e := family.Parse(text)
	if e != wantError || n != line || !sameKin(got, api.Kin{}) {
		t.Errorf("Parse of %q: %+v, %d, error %d, want %d, error %d", text, got, n, e, line, wantError)
	}
}

func TestPrint(t *testing.T) {
	want(t, "the example", exampleText, api.OK)(family.Print(example()))
	one := api.Kin{Offences: []api.Offence{{Source: 99999, Person: 999, Day: 4166, Known: 4165, Until: 4166}}}
	want(t, "the last of all", "offence 99999 999 4166 4165 4166\n", api.OK)(family.Print(one))
	one.Offences[0].Until = 4167
	want(t, "what is not valid", "", api.ErrKin)(family.Print(one))
}

// TestParseOfPrint: P3.7.
func TestParseOfPrint(t *testing.T) {
	r := rand.New(rand.NewSource(40))
	scenes(40, 500, func(s scene) {
		text, e := family.Print(s.k)
		wantKin(t, mustBe(t, text, e), s.k)
		wantKin(t, strings.TrimSuffix(text, "\n"), s.k)
		lines := strings.SplitAfter(text, "\n")
		slices.SortStableFunc(lines, func(a, b string) int { return strings.Compare(b[:min(2, len(b))], a[:min(2, len(a))]) })
		wantKin(t, strings.Join(lines, ""), s.k) // the kinds in another order
		wantKin(t, spaced(r, text), s.k)
	})
	long := api.Kin{}
	for i := range 60 {
		stay, bond, away, offence := aStay(), aBond(), anAway(), anOffence()
		stay.Source, bond.Source, away.Source, offence.Source = 99940+i, 99940+i, 99940+i, 99940+i
		stay.Person, away.Person, away.By, offence.Person = 999, 999, 998, 999
		stay.Family, bond.Family, bond.With = 99, 99, 98
		stay.From, stay.Till, bond.From, bond.Till, away.From, away.Till = at(4166), at(4166), at(4166), at(4166), at(4166), at(4166)
		stay.Known, stay.Until, bond.Known, bond.Until, away.Known, away.Until = 4165, 4166, 4165, 4166, 4165, 4166
		offence.Day, offence.Known, offence.Until = 4166, 4165, 4166
		long.Stays, long.Bonds, long.Aways, long.Offences = append(long.Stays, stay), append(long.Bonds, bond), append(long.Aways, away), append(long.Offences, offence)
	}
	text, e := family.Print(long)
	wantKin(t, mustBe(t, text, e), long) // the longest text of all is not too long
}

// spaced returns a text with more spaces, and lines that say nothing.
func spaced(r *rand.Rand, text string) string {
	var more strings.Builder
	for _, line := range strings.Split(text, "\n") {
		more.WriteString([]string{"", "\n", "   \n", "#\n", "# stay 1\n", "#\tx\r\n"}[r.Intn(6)])
		more.WriteString([]string{"", " ", "   "}[r.Intn(3)])
		more.WriteString(strings.ReplaceAll(line, " ", []string{" ", "  ", "    "}[r.Intn(3)]))
		more.WriteString([]string{"", " ", "   "}[r.Intn(3)] + "\n")
	}
	return more.String()
}

func TestParseOrder(t *testing.T) {
	wantKin(t, exampleText, example())
	wantKin(t, "", api.Kin{})
	wantKin(t, "\n\n  \n#", api.Kin{})
	// Kinds may be mixed; entries of one kind stand in the order of their lines, which is that of their sources.
	mixed := "offence 5 1 0 0 0\naway 3 1 0 0 0 0 0 0 0\nstay 9 1 1 0 0 0 0 0 0\naway 4 1 0 0 0 0 0 0 0\nbond 1 2 1 0 0 0 0 0 0\nstay 10 1 1 0 0 0 0 0 0"
	wantKin(t, mixed, api.Kin{
		Stays:    []api.Stay{{Source: 9, Person: 1, Family: 1}, {Source: 10, Person: 1, Family: 1}},
		Bonds:    []api.Bond{{Source: 1, Family: 2, With: 1}},
		Aways:    []api.Away{{Source: 3, Person: 1}, {Source: 4, Person: 1}},
		Offences: []api.Offence{{Source: 5, Person: 1}},
	})
	wantWrong(t, "stay 10 1 1 0 0 0 0 0 0\nbond 1 2 1 0 0 0 0 0 0\nstay 9 1 1 0 0 0 0 0 0\n", 0, api.ErrKin)
	wantWrong(t, "stay 9 1 1 0 0 0 0 0 0\nstay 9 1 1 0 0 0 0 0 0\n", 0, api.ErrKin)
}

func TestParseForm(t *testing.T) {
	for _, line := range []string{
		"stay", "stay 1", "stay 1 10 3 0 0 100 100 0", "stay 1 10 3 0 0 100 100 0 0 0", "bond 20 5 3 20 30 70 70 8", "away 30 10 0 50 50 52 55 0", "offence 40 11 9 5", "offence 40 11 9 5 0 0",
		"offence 40 11 9 5 0 0 0 0 0", "Stay 1 10 3 0 0 100 100 0 0", "stays 1 10 3 0 0 100 100 0 0", "sta 1 10 3 0 0 100 100 0 0", "1 10 3 0 0 100 100 0 0", "1 stay 10 3 0 0 100 100 0 0",
		"stay 01 10 3 0 0 100 100 0 0", "stay 1 10 3 00 0 100 100 0 0", "stay +1 10 3 0 0 100 100 0 0", "stay -1 10 3 0 0 100 100 0 0", "stay -0 10 3 0 0 100 100 0 0", "stay 1 10 3 0 0 100 100 0 -0",
		"stay : 10 3 0 0 100 100 0 0", "stay / 10 3 0 0 100 100 0 0", "stay 1: 10 3 0 0 100 100 0 0", "stay 1x 10 3 0 0 100 100 0 0", "stay 1.0 10 3 0 0 100 100 0 0", "stay 1_0 10 3 0 0 100 100 0 0", "stay 0x1 10 3 0 0 100 100 0 0", "stay 1e2 10 3 0 0 100 100 0 0", "stay \u0663 10 3 0 0 100 100 0 0",
		"stay 100000 10 3 0 0 100 100 0 0", "stay 123456 10 3 0 0 100 100 0 0", "stay 000001 10 3 0 0 100 100 0 0", "stay 99999999999999999999 10 3 0 0 100 100 0 0",
		"stay\t1 10 3 0 0 100 100 0 0", "stay 1 10 3 0 0 100 100 0 0\r", "stay 1 10 3 0 0 100 100 0\t0", "stay 1 10 3 0 0 100 100 0 0\x00", "stay 1\u00a010 3 0 0 100 100 0 0", "stay 1\v10 3 0 0 100 100 0 0",
		"stay 1 10 3 0 0 100 100 0 0 #", " # stay", "\t", "\r", "\xff", "offence 40 11 9 5 0\xff", "\ufeffstay 1 10 3 0 0 100 100 0 0",
	} {
		wantWrong(t, line, 1, api.ErrText)
		wantWrong(t, line+"\n", 1, api.ErrText)
		wantWrong(t, "# a\n\n"+exampleText+"  \n"+line+"\nstay\n", 12, api.ErrText)
		wantWrong(t, "stay 0 0 0 0 0 0 0 0 0\n"+line, 2, api.ErrText) // before what is not valid
	}
}

func TestParseInvalid(t *testing.T) {
	for _, line := range []string{
		"stay 0 10 3 0 0 100 100 0 0", "stay 1 1000 3 0 0 100 100 0 0", "stay 1 10 100 0 0 100 100 0 0", "stay 1 10 3 1 0 100 100 0 0", "stay 1 10 3 0 0 100 4167 0 0", "stay 1 10 3 0 0 100 99999 0 0",
		"bond 1 3 3 0 0 0 0 0 0", "bond 1 1 0 0 0 0 0 0 0", "away 1 3 3 0 0 0 0 0 0", "offence 1 3 4167 0 0", "offence 1 3 0 5 5",
	} {
		wantWrong(t, line, 0, api.ErrKin)
		wantWrong(t, line+"\n# the end\n", 0, api.ErrKin)
	}
	var lines strings.Builder
	for i := range 61 {
		lines.WriteString("offence " + strconv.Itoa(i+1) + " 1 1 0 0\n")
	}
	wantWrong(t, lines.String(), 0, api.ErrKin)
}

func TestParseLong(t *testing.T) {
	short := strings.Repeat("#", 12000-len(exampleText)-1) + "\n" + exampleText
	wantKin(t, short, example())
	wantWrong(t, "#"+short, 0, api.ErrLong)
	wantWrong(t, strings.Repeat("\n", 12001), 0, api.ErrLong)
	wantWrong(t, strings.Repeat("x", 12001), 0, api.ErrLong) // before ErrText
	wantWrong(t, strings.Repeat("x\n", 6000), 1, api.ErrText)
	wantWrong(t, strings.Repeat("\n", 11999)+"x", 12000, api.ErrText)
	wantKin(t, strings.Repeat("\n", 12000), api.Kin{})
}

// TestParseAny: P1: texts of all kinds of bytes are parsed, or have an error; what is parsed is printed as an equal one.
func TestParseAny(t *testing.T) {
	r := rand.New(rand.NewSource(41))
	pieces := []string{"stay ", "bond ", "away ", "offence ", "1 ", "2 ", "0 ", "00", "\n", "\n", " ", "#", "\xff", "\t", "stay 1 ", "bond 2 ", "away 3 ", "offence 4 ", "1 1 0 0 0 0 0 0\n", "2 1 0 0 0 0 0 0\n", "9 0 0 0\n", "stay 5 1 1 2 3 4 5 0 6\n", "stay 6 1 1 2 3 4 5 0 6", "bond 5 2 1 2 3 4 5 0 6\n", "offence 5 1 1 2 3\n"}
	parsed := 0
	for range 20000 {
		var text strings.Builder
		for range r.Intn(9) {
			text.WriteString(pieces[r.Intn(len(pieces))])
		}
		k, line, e := family.Parse(text.String())
		if e != api.OK {
			if !sameKin(k, api.Kin{}) || (e == api.ErrText) != (line > 0) || e != api.ErrText && e != api.ErrKin {
				t.Fatalf("Parse of %q: %+v, %d, error %d", text.String(), k, line, e)
			}
			continue
		}
		printed, e := family.Print(k)
		wantKin(t, mustBe(t, printed, e), k)
		if len(sources(k)) > 0 {
			parsed++
		}
	}
	if parsed < 100 {
		t.Error("too few were parsed:", parsed)
	}
}
