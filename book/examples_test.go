package book_test

import (
	"fmt"
	"slices"
	"strings"
	"testing"

	"leazing/api"
	"leazing/book"
)

// key is R of the chapter's examples.
func key() api.Record {
	return api.Record{At: item(2, 0), Kind: 5, Day: 10, Known: 12, Text: "a key"}
}

const keyText = "2 0 5 10 12 0 0 a key"

// keyStrips are the strips of R, as the first record that is written.
func keyStrips() []api.Strip {
	return []api.Strip{{Size: 21, Text: "2051 200aky"}, {Size: 21, Text: "   01    e "}, {Size: 21, Text: "205A1200aQy"}}
}

func item(parish, no int) api.Item { return api.Item{Parish: parish, No: no} }

func list(numbers ...int) []int { return numbers }

// short returns what a message says of something: what is bound can have a very long text.
func short(what any) string {
	const most = 1500
	text := fmt.Sprintf("%+v", what)
	return text[:min(len(text), most)]
}

// same tells whether two results are the same; nil lists and empty ones are.
func same(a, b any) bool {
	switch x := a.(type) {
	case api.Book:
		return slices.Equal(x.Records, b.(api.Book).Records)
	case api.Bound:
		return sameBound(x, b.(api.Bound))
	case api.Parish:
		return sameParish(x, b.(api.Parish))
	case api.Letter:
		return sameLetter(x, b.(api.Letter))
	case []api.Letter:
		return slices.EqualFunc(x, b.([]api.Letter), sameLetter)
	case []api.Record:
		return slices.Equal(x, b.([]api.Record))
	case []api.Strip:
		return slices.Equal(x, b.([]api.Strip))
	}
	return a == b
}

func sameBound(a, b api.Bound) bool {
	for i := range a.Strips {
		if !slices.Equal(a.Strips[i], b.Strips[i]) {
			return false
		}
	}
	return a.Sewn == b.Sewn
}

func sameParish(a, b api.Parish) bool {
	return a.Me == b.Me && sameBound(a.Bound, b.Bound) && slices.Equal(a.Log, b.Log) && a.Known == b.Known
}

func sameLetter(a, b api.Letter) bool {
	ends := a.From == b.From && a.To == b.To && a.About == b.About
	return ends && a.Many == b.Many && a.First == b.First && slices.Equal(a.Records, b.Records)
}

// want wants a result and an error.
func want[T any](t *testing.T, what any, want T, due api.Errno) func(T, api.Errno) {
	return func(got T, e api.Errno) {
		t.Helper()
		if e != due || !same(got, want) {
			t.Errorf("%s: %s, error %d, want %s, error %d", short(what), short(got), e, short(want), due)
		}
	}
}

// wantBoth wants two results.
func wantBoth[T, U any](t *testing.T, what any, first T, second U) func(T, U) {
	return func(got T, besides U) {
		t.Helper()
		if !same(got, first) || !same(besides, second) {
			t.Errorf("%s: %s and %s, want %s and %s", short(what), short(got), short(besides), short(first), short(second))
		}
	}
}

// wantTwo wants two results and an error.
func wantTwo[T, U any](t *testing.T, what any, first T, second U, due api.Errno) func(T, U, api.Errno) {
	return func(got T, besides U, e api.Errno) {
		t.Helper()
		wantError(t, what, due, e)
		wantBoth(t, what, first, second)(got, besides)
	}
}

func wantError(t *testing.T, what any, want, got api.Errno) {
	t.Helper()
	if got != want {
		t.Errorf("%s: error %d, want %d", short(what), got, want)
	}
}

// must returns a result that has to be without an error.
func must[T any](t *testing.T, what any) func(T, api.Errno) T {
	return func(got T, e api.Errno) T {
		t.Helper()
		if e != api.OK {
			t.Fatalf("%s: error %d", short(what), e)
		}
		return got
	}
}

// mustTwo returns two results that have to be without an error.
func mustTwo[T, U any](t *testing.T, what any) func(T, U, api.Errno) (T, U) {
	return func(got T, besides U, e api.Errno) (T, U) {
		t.Helper()
		if e != api.OK {
			t.Fatalf("%s: error %d", short(what), e)
		}
		return got, besides
	}
}

func TestExampleTexts(t *testing.T) {
	want(t, key(), keyText, api.OK)(book.Encode(key()))
	want(t, keyText, key(), api.OK)(book.Decode(keyText))
	l := keyStrips()
	want(t, key(), l, api.OK)(book.Thirds(key(), 0))
	wantError(t, "the second one", api.OK, book.CheckStrip(1, l[1]))
	wantError(t, "the second one, in the quire 0", api.OK, book.CheckStrip(0, l[1]))
	short := l[0]
	short.Text = strings.TrimSuffix(short.Text, "y")
	wantError(t, "the first one, without its last byte", api.ErrStrip, book.CheckStrip(2, short))
	wantError(t, "the first one, in the quire 1", api.ErrStrip, book.CheckStrip(1, l[0]))
	want(t, "0 and 2", keyText, api.OK)(book.Mend(0, l[0], 2, l[2]))
	want(t, "2 and 1", keyText, api.OK)(book.Mend(2, l[2], 1, l[1]))
	want(t, "0 and 0", "", api.ErrArg)(book.Mend(0, l[0], 0, l[0]))
}

func TestExampleTears(t *testing.T) {
	l := keyStrips()
	bound := api.Bound{Strips: [3][]api.Strip{{l[0]}, {l[1]}, {l[2]}}}
	log := []api.Record{key()}
	wantTwo(t, "Write", bound, log, api.OK)(book.Write(api.Bound{}, nil, key()))
	whole := bound
	whole.Sewn = [3]int{1, 1, 1}
	want(t, "Sew", whole, api.OK)(book.Sew(bound), api.OK)

	left := book.Tear(bound, list(3, 2, 0, 0, 0, 2, 0))
	want(t, "a lost strip", api.Bound{Strips: [3][]api.Strip{{l[0]}, {}, {l[2]}}}, api.OK)(left, api.OK)
	wantBoth(t, "a lost strip", whole, log)(book.Open(left))

	left = book.Tear(bound, list(3, 2, 0, 0, 0, 1, 4))
	short := api.Strip{Size: 21, Text: "205A"}
	want(t, "a torn strip", api.Bound{Strips: [3][]api.Strip{{l[0]}, {}, {short}}}, api.OK)(left, api.OK)
	wantBoth(t, "a torn strip", api.Bound{}, []api.Record{})(book.Open(left))

	left = book.Tear(book.Sew(bound), list(1))
	want(t, "an eaten quire", api.Bound{Strips: [3][]api.Strip{{l[0]}, {}, {l[2]}}, Sewn: [3]int{1, 0, 1}}, api.OK)(left, api.OK)
	wantBoth(t, "an eaten quire", whole, log)(book.Open(left))
}

func TestExampleLetters(t *testing.T) {
	two := must[api.Parish](t, 2)(book.NewParish(2))
	three := must[api.Parish](t, 3)(book.NewParish(3))
	two, noted := mustTwo[api.Parish, api.Record](t, "Note")(book.Note(two, key()))
	want(t, "Note", key(), api.OK)(noted, api.OK)
	two, l := mustTwo[api.Parish, api.Letter](t, "Send")(book.Send(two, 3, 2))
	want(t, "Send", api.Letter{From: 2, To: 3, About: 2, Many: 1, First: 1}, api.OK)(l, api.OK)

	three, back := mustTwo[api.Parish, []api.Letter](t, "to 3")(book.Receive(three, l))
	want(t, "back to 2", []api.Letter{{From: 3, To: 2, About: 2}}, api.OK)(back, api.OK)
	var known [api.MaxParishes][api.MaxParishes]int
	known[2][2] = 1
	want(t, "known by 3", api.Parish{Me: 3, Known: known}, api.OK)(three, api.OK)

	_, back = mustTwo[api.Parish, []api.Letter](t, "to 2")(book.Receive(two, back[0]))
	want(t, "back to 3", []api.Letter{{From: 2, To: 3, About: 2, Many: 1, Records: []api.Record{key()}}}, api.OK)(back, api.OK)
	three, back = mustTwo[api.Parish, []api.Letter](t, "to 3 once more")(book.Receive(three, back[0]))
	want(t, "no letter", []api.Letter{}, api.OK)(back, api.OK)
	want(t, "written by 3", two.Bound, api.OK)(three.Bound, api.OK)
	want(t, "written by 3", []api.Record{key()}, api.OK)(three.Log, api.OK)
}

func TestExampleLateLetter(t *testing.T) {
	four := must[api.Parish](t, 4)(book.NewParish(4))
	late := api.Letter{From: 2, To: 4, About: 2, Many: 2, First: 1, Records: []api.Record{{At: item(2, 1), Kind: 1}}}
	var known [api.MaxParishes][api.MaxParishes]int
	known[2][2] = 2
	wantTwo(t, late, api.Parish{Me: 4, Known: known}, []api.Letter{{From: 4, To: 2, About: 2}}, api.OK)(book.Receive(four, late))
}

// TestExampleOfDocument: the tenth one of DOC.md: six of ten records are carried by the third letter.
func TestExampleOfDocument(t *testing.T) {
	zero := must[api.Parish](t, 0)(book.NewParish(0))
	one := must[api.Parish](t, 1)(book.NewParish(1))
	for range 10 {
		zero, _ = mustTwo[api.Parish, api.Record](t, "Note")(book.Note(zero, key()))
	}
	zero, l := mustTwo[api.Parish, api.Letter](t, "Send")(book.Send(zero, 1, 0))
	one, back := mustTwo[api.Parish, []api.Letter](t, l)(book.Receive(one, l))
	_, back = mustTwo[api.Parish, []api.Letter](t, back)(book.Receive(zero, back[0]))
	one, back = mustTwo[api.Parish, []api.Letter](t, back)(book.Receive(one, back[0]))
	want(t, "what was carried", zero.Log[:6], api.OK)(one.Log, api.OK)
	want(t, "what goes back", []api.Letter{{From: 1, To: 0, About: 0, Many: 6, First: 6}}, api.OK)(back, api.OK)
}
