package queen_test

import (
	"fmt"
	"reflect"
	"slices"
	"strings"
	"testing"

	"leazing/api"
	"leazing/queen"
)

func list[T any](values ...T) []T { return values }

// short returns what a message says of something.
func short(what any) string {
	const most = 2500
	text := fmt.Sprintf("%+v", what)
	return text[:min(len(text), most)]
}

// same tells whether two values are the same; nil lists and empty ones are.
func same(a, b any) bool { return sameValues(reflect.ValueOf(a), reflect.ValueOf(b)) }

func sameValues(a, b reflect.Value) bool {
	switch a.Kind() {
	case reflect.Slice, reflect.Array:
		for i := range min(a.Len(), b.Len()) {
			if !sameValues(a.Index(i), b.Index(i)) {
				return false
			}
		}
		return a.Len() == b.Len()
	case reflect.Struct:
		for i := range a.NumField() {
			if !sameValues(a.Field(i), b.Field(i)) {
				return false
			}
		}
		return true
	case reflect.String:
		return a.String() == b.String()
	case reflect.Bool:
		return a.Bool() == b.Bool()
	}
	return a.Int() == b.Int()
}

// want wants a result and an error.
func want[T any](t *testing.T, what any, want T, due api.Errno) func(T, api.Errno) {
	return func(got T, e api.Errno) {
		t.Helper()
		if e != due || !same(got, want) {
			t.Errorf("%s: %s, error %d, want %s, error %d", short(what), short(got), e, short(want), due)
		}
	}
}

// wantAt wants a result, the number of a line or a word, and an error.
func wantAt[T any](t *testing.T, what any, want T, at int, due api.Errno) func(T, int, api.Errno) {
	return func(got T, n int, e api.Errno) {
		t.Helper()
		if e != due || n != at || !same(got, want) {
			t.Errorf("%s: %s, %d, error %d, want %s, %d, error %d", short(what), short(got), n, e, short(want), at, due)
		}
	}
}

// wantError wants the number of a line and an error.
func wantError(t *testing.T, what any, at int, due api.Errno) func(int, api.Errno) {
	return func(n int, e api.Errno) {
		t.Helper()
		if e != due || n != at {
			t.Errorf("%s: %d, error %d, want %d, error %d", short(what), n, e, at, due)
		}
	}
}

// must returns a result that has to be without an error.
func must[T any](t *testing.T, what any) func(T, api.Errno) T {
	return func(got T, e api.Errno) T {
		t.Helper()
		if e != api.OK {
			t.Fatalf("%s: error %d", short(what), e)
		}
		return got
	}
}

// play wants what a script tells.
func play(t *testing.T, script string, told ...string) {
	t.Helper()
	text := strings.Join(append(told, ""), "\n")
	got, at, e := queen.Run(script)
	if at != 0 || e != api.OK {
		t.Fatalf("%s: %d, error %d", short(script), at, e)
	}
	lines, due := strings.Split(got, "\n"), strings.Split(text, "\n")
	for i := range max(len(lines), len(due)) {
		if i >= len(lines) || i >= len(due) || lines[i] != due[i] {
			t.Fatalf("%s: %q, want %q: from the line %d on it is another one", short(script), got, text, i+1)
		}
	}
}

func command(kind int, args ...int) api.Command { return api.Command{Kind: kind, Args: args} }

func TestExamplesOfWords(t *testing.T) {
	none := api.Command{}
	wantAt(t, "right", command(api.CmdRight, 0, 1, 2, 3, 4), 0, api.OK)(queen.Parse("right 0 1 2 3 4"))
	wantAt(t, "open", none, 4, api.ErrWords)(queen.Parse("open 0 1 2"))
	wantAt(t, "blank", none, 1, api.ErrWords)(queen.Parse("blank 1"))
	wantAt(t, "an empty line", none, 0, api.ErrWords)(queen.Parse(""))
}

func TestExamplesOfRolls(t *testing.T) {
	text, told, at, e := queen.Open("> blank\n< ok")
	if text != "blank\n" || told != "ok\n" || at != 0 || e != api.OK {
		t.Errorf("Open: %q, %q, %d, error %d", text, told, at, e)
	}
	wantError(t, "ok", 0, api.OK)(queen.Accept("> blank\n< ok\n"))
	wantError(t, "none", 2, api.ErrSaid)(queen.Accept("> blank\n< none\n"))
}

// example is some lines of the chapter's script, and what they tell.
type example struct{ script, told string }

// examples are the ten of DOC.md, which together are the chapter's script.
func examples() []example {
	return []example{
		{"field 1 40 50 3\nload 0 0 5 1 30 20 25\nload 0 0 5 1 34 20 25\nstand 0 0 8 1 34 0 0\n", "ok\nrecord 0 0\nrecord 0 1\nrecord 0 2\n"},
		{"stood 0 1 34 5\nclear 0 1 34 5\nclear 0 1 34 8\nopen 0 1 36 8\n", "0 10\nmaybe\nyes\nyes\n"},
		{
			"proof 0 10 5 1 0 0 11 0 0 0\nproof 0 60 5 7 0 11 12 0 3 0\nright 0 11 0 50 5\nright 0 11 0 70 5\nsettled 0 11 70 5\n",
			"record 0 3\nrecord 0 4\nyes\nmaybe\n0 3\n",
		},
		{"stay 0 0 5 11 2 0 0 100 100\nheads 0 2 50 5\n", "record 0 5\n1 1\n"},
		{"pass 0 10 5 0 2 40 60 5\nhoard 0 20 5 2 0 45\nhave 0 2 30 5\ncert 0 5 5\n", "record 0 6\nrecord 0 7\n40 45\n40 45\n"},
		{"scale 0 10\nneed 0 0 5 2 3 4\ncrop 0 0 5 2 3 10 30\nbread 0 2 3 30\n", "ok\nrecord 0 8\nrecord 0 9\n10 30\n"},
		{
			"chain 1 5 6\ncell 1 10 30\ncell 1 10 20\nclaim 2 1 0 1\nclaim 3 2 0 1\nshare 0\n",
			"ok\nok\nok\nok\nok\ngain 10 1\n0 0\n1 1\n",
		},
		{"mill 2\ncomer 2 3 2\ncomer 3 1 1\ngrind\n", "ok\nok\nok\nlevel 1\nturns 3 2\n"},
		{
			"want 1 91\nbind 1\ntell 1 0\nhear 0\nserve 0\nbind 0\ntell 0 1\nhear 0\nring 1 91\nwho 91\n",
			"ok\nok\npeals 1\npeals 0\nok\nok\npeals 1\npeals 0\nok\n1\n",
		},
		{
			"send 0 1 0\ndeliver 0\ndeliver 0\ndeliver 0\nrecords\n",
			"letters 1\nletters 1\nletters 1\nletters 1\nrecords 10\nrecords 6\nrecords 0\nrecords 0\nrecords 0\nrecords 0\n",
		},
	}
}

// wholeExample returns all examples as one script, and what it tells.
func wholeExample() example {
	var all example
	for _, x := range examples() {
		all.script += x.script
		all.told += x.told
	}
	return all
}

func linesOf(text string) []string { return strings.Split(strings.TrimSuffix(text, "\n"), "\n") }

// TestExampleScript: the whole script of the chapter, with what it tells, line by line.
func TestExampleScript(t *testing.T) {
	whole := wholeExample()
	play(t, whole.script, linesOf(whole.told)...)
	if n, m := len(linesOf(whole.script)), len(linesOf(whole.told)); n != 48 || m != 56 {
		t.Errorf("%d lines tell %d", n, m)
	}
}

// TestExamplesOfDocument: each of its ten examples, one after the other, at one queen.
func TestExamplesOfDocument(t *testing.T) {
	q := queen.New()
	for i, x := range examples() {
		var told []string
		for _, line := range linesOf(x.script) {
			c, at, e := queen.Parse(line)
			if at != 0 || e != api.OK {
				t.Fatalf("%q: %d, error %d", line, at, e)
			}
			told = append(told, q.Do(c)...)
		}
		if !slices.Equal(told, linesOf(x.told)) {
			t.Errorf("the example %d tells %q, want %q", i+1, told, x.told)
		}
	}
}

// TestExampleRoll: the roll of the script is accepted, and has both the script and what it tells.
func TestExampleRoll(t *testing.T) {
	whole := wholeExample()
	roll, at, e := queen.Roll(whole.script)
	if at != 0 || e != api.OK {
		t.Fatalf("Roll: %d, error %d", at, e)
	}
	wantError(t, roll, 0, api.OK)(queen.Accept(roll))
	text, told, at, e := queen.Open(roll)
	if text != whole.script || told != whole.told || at != 0 || e != api.OK {
		t.Errorf("Open: %q, %q, %d, error %d", text, told, at, e)
	}
}
