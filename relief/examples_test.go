package relief_test

import (
	"fmt"
	"slices"
	"testing"

	"leazing/api"
	"leazing/relief"
)

// example is R of the chapter's examples.
func example() api.Relief {
	return api.Relief{
		Scales: []api.Scale{{From: 0, Bread: 4}, {From: 3, Bread: 5}},
		Needs: []api.Need{
			{Source: 1, Family: 7, Week: 2, Heads: 3},
			{Source: 2, Family: 7, Week: 3, Heads: 3},
			{Source: 3, Family: 7, Week: 4, Heads: 2},
			{Source: 4, Family: 8, Week: 3, Heads: 1},
		},
		Crops: []api.Crop{
			{Source: 11, Family: 7, Week: 2, Gallons: span(10, 20), Known: 15},
			{Source: 12, Family: 7, Week: 3, Gallons: span(6, 6), Known: 25},
		},
		Findings: []api.Finding{{Source: 21, Family: 7, From: 3, To: 3, Known: 30}},
		Mades:    []api.Made{{Source: 31, Family: 7, Gallons: 4, Known: 32}},
	}
}

func list(numbers ...int) []int { return numbers }

func span(lo, hi int) api.Range { return api.Range{Lo: lo, Hi: hi} }

func post(day, family, bread, owed int) api.Posting {
	return api.Posting{Day: day, Family: family, Bread: bread, Owed: owed}
}

func account(bread, owed int) api.Account { return api.Account{Bread: bread, Owed: owed} }

// short returns what a message says of something: a relief can have a very long text.
func short(what any) string {
	const most = 1500
	text := fmt.Sprintf("%+v", what)
	return text[:min(len(text), most)]
}

// want wants a value and an error.
func want[T comparable](t *testing.T, what any, want T, wantError api.Errno) func(T, api.Errno) {
	return func(got T, e api.Errno) {
		t.Helper()
		if e != wantError || got != want {
			t.Errorf("%s: %v, error %d, want %v, error %d", short(what), got, e, want, wantError)
		}
	}
}

// wantList wants a list and an error.
func wantList[T comparable](t *testing.T, what any, want []T, wantError api.Errno) func([]T, api.Errno) {
	return func(got []T, e api.Errno) {
		t.Helper()
		if e != wantError || !slices.Equal(got, want) {
			t.Errorf("%s: %v, error %d, want %v, error %d", short(what), got, e, want, wantError)
		}
	}
}

// wantRelief wants a relief and an error.
func wantRelief(t *testing.T, what any, want api.Relief, wantError api.Errno) func(api.Relief, api.Errno) {
	return func(got api.Relief, e api.Errno) {
		t.Helper()
		if e != wantError || !same(got, want) {
			t.Errorf("%s: %s, error %d, want %s, error %d", short(what), short(got), e, short(want), wantError)
		}
	}
}

func wantError(t *testing.T, what any, want, got api.Errno) {
	t.Helper()
	if got != want {
		t.Errorf("%s: error %d, want %d", short(what), got, want)
	}
}

// must returns a result that has to be without an error.
func must[T any](t *testing.T, what any) func(T, api.Errno) T {
	return func(got T, e api.Errno) T {
		t.Helper()
		if e != api.OK {
			t.Fatalf("%s: error %d", short(what), e)
		}
		return got
	}
}

func same(a, b api.Relief) bool {
	return slices.Equal(a.Scales, b.Scales) && slices.Equal(a.Needs, b.Needs) && slices.Equal(a.Crops, b.Crops) &&
		slices.Equal(a.Findings, b.Findings) && slices.Equal(a.Mades, b.Mades)
}

func TestExampleBread(t *testing.T) {
	r := example()
	wantError(t, r, api.OK, relief.Check(r))
	want(t, "week 2", 12, api.OK)(relief.Wants(r, 7, 2, 0))
	want(t, "week 3", 15, api.OK)(relief.Wants(r, 7, 3, 0))
	want(t, "week 5", 0, api.OK)(relief.Wants(r, 7, 5, 0))
	want(t, "week 2, on 14", span(12, 12), api.OK)(relief.Bread(r, 7, 2, 14))
	want(t, "week 2, on 15", span(0, 2), api.OK)(relief.Bread(r, 7, 2, 15))
	want(t, "from week 2", span(0, 8), api.OK)(relief.Carried(r, 7, 2, 15))
	want(t, "week 3, on 15", span(7, 15), api.OK)(relief.Bread(r, 7, 3, 15))
	want(t, "week 3, on 25", span(1, 9), api.OK)(relief.Bread(r, 7, 3, 25))
	want(t, "week 3, on 30", span(7, 15), api.OK)(relief.Bread(r, 7, 3, 30))
	want(t, "week 3, by 15 and 6", 6, api.OK)(relief.Truly(r, 7, 3, 25, list(15, 6)))
	want(t, "week 3, by 15", 12, api.OK)(relief.Truly(r, 7, 3, 30, list(15)))
	wantList(t, "on 25", list(11, 12), api.OK)(relief.Counted(r, 7, 25))
	wantList(t, "on 30", list(11), api.OK)(relief.Counted(r, 7, 30))
}

func TestExampleAccounts(t *testing.T) {
	r := example()
	want(t, "on 25", 0, api.OK)(relief.Owed(r, 7, 25))
	want(t, "on 30", 6, api.OK)(relief.Owed(r, 7, 30))
	want(t, "on 32", 2, api.OK)(relief.Owed(r, 7, 32))
	want(t, "on 15", account(2, 0), api.OK)(relief.Stands(r, 7, 15))
	want(t, "on 25", account(2+9, 0), api.OK)(relief.Stands(r, 7, 25))
	want(t, "on 30", account(2+15+10, 6), api.OK)(relief.Stands(r, 7, 30))
	days := list(15, 25, 30)
	posts := []api.Posting{post(15, 7, 2, 0), post(25, 7, 9, 0), post(25, 8, 5, 0), post(30, 7, 16, 6)}
	wantList(t, days, posts, api.OK)(relief.Posts(r, days))
	wantError(t, days, api.OK, relief.CheckPosts(r, days, posts))
	want(t, days, account(27, 6), api.OK)(relief.Balance(r, days, 7))
	wantList(t, 21, list(7), api.OK)(relief.Moved(r, 21, 32))
	wantList(t, 4, list(8), api.OK)(relief.Moved(r, 4, 32))
	wantList(t, "not known yet", list(), api.OK)(relief.Moved(r, 31, 31))
	wantList(t, "no entry", list(), api.ErrNone)(relief.Moved(r, 5, 32))
}

func TestExampleDates(t *testing.T) {
	wantList(t, "dates", list(0, 15, 25, 30, 32), api.OK)(relief.Dates(example()))
	wantList(t, "families", list(7, 8), api.OK)(relief.Families(example(), 0))
}

// TestExampleOfDocument: the sixth one of DOC.md.
func TestExampleOfDocument(t *testing.T) {
	r := api.Relief{
		Scales: []api.Scale{{From: 0, Bread: 10}},
		Needs:  []api.Need{{Source: 9, Family: 2, Week: 3, Heads: 4, Known: 5}},
		Crops:  []api.Crop{{Source: 10, Family: 2, Week: 3, Gallons: span(10, 30), Known: 5}},
	}
	want(t, "as known on 30", span(10, 30), api.OK)(relief.Bread(r, 2, 3, 30))
	want(t, "before it is known", span(0, 0), api.OK)(relief.Bread(r, 2, 3, 4))
}
