package sack_test

import (
	"slices"
	"testing"

	"leazing/api"
	"leazing/sack"
)

// example is S of the chapter's examples.
func example() api.Sacks {
	return api.Sacks{
		Passes: []api.Pass{
			{Source: 1, From: 0, To: 3, Day: 10, Gallons: span(40, 60), Cert: 77},
			{Source: 2, From: 0, To: 5, Day: 10, Gallons: span(20, 30)},
			{Source: 3, From: 3, To: 5, Day: 20, Gallons: span(0, 30)},
			{Source: 4, From: 5, To: 0, Day: 30, Gallons: span(50, 70)},
		},
		Hoards: []api.Hoard{
			{Source: 11, Family: 3, Day: 20, Gallons: span(25, 40)},
			{Source: 12, Family: 5, Day: 30, Gallons: span(0, 5), Known: 9},
			{Source: 13, Family: 3, Day: 10, Gallons: span(0, 39), Known: 12},
		},
	}
}

func list(numbers ...int) []int { return numbers }

func span(lo, hi int) api.Range { return api.Range{Lo: lo, Hi: hi} }

func spot(family, day int) api.Spot { return api.Spot{Family: family, Day: day} }

// fence returns the fence of some spots.
func fence(over bool, spots ...api.Spot) api.Fence { return api.Fence{Over: over, Spots: spots} }

// want wants a value and an error.
func want[T comparable](t *testing.T, what any, want T, wantError api.Errno) func(T, api.Errno) {
	return func(got T, e api.Errno) {
		t.Helper()
		if e != wantError || got != want {
			t.Errorf("%+v: %v, error %d, want %v, error %d", what, got, e, want, wantError)
		}
	}
}

// wantList wants a list and an error.
func wantList(t *testing.T, what any, want []int, wantError api.Errno) func([]int, api.Errno) {
	return func(got []int, e api.Errno) {
		t.Helper()
		if e != wantError || !slices.Equal(got, want) {
			t.Errorf("%+v: %v, error %d, want %v, error %d", what, got, e, want, wantError)
		}
	}
}

// wantSacks wants sacks and an error.
func wantSacks(t *testing.T, what any, want api.Sacks, wantError api.Errno) func(api.Sacks, api.Errno) {
	return func(got api.Sacks, e api.Errno) {
		t.Helper()
		if e != wantError || !same(got, want) {
			t.Errorf("%+v: %+v, error %d, want %+v, error %d", what, got, e, want, wantError)
		}
	}
}

func wantError(t *testing.T, what any, want, got api.Errno) {
	t.Helper()
	if got != want {
		t.Errorf("%+v: error %d, want %d", what, got, want)
	}
}

// must returns a result that has to be without an error.
func must[T any](t *testing.T, what any) func(T, api.Errno) T {
	return func(got T, e api.Errno) T {
		t.Helper()
		if e != api.OK {
			t.Fatalf("%+v: error %d", what, e)
		}
		return got
	}
}

func same(a, b api.Sacks) bool {
	return slices.Equal(a.Passes, b.Passes) && slices.Equal(a.Hoards, b.Hoards)
}

func TestExampleRanges(t *testing.T) {
	s := example()
	wantError(t, s, api.OK, sack.Check(s))
	want(t, "3 on 10", span(45, 60), api.OK)(sack.Have(s, spot(3, 10), 5))
	want(t, "3 on 20", span(25, 40), api.OK)(sack.Have(s, spot(3, 20), 5))
	want(t, "3 on 9", span(0, 0), api.OK)(sack.Have(s, spot(3, 9), 5))
	want(t, "5 on 25", span(50, 60), api.OK)(sack.Have(s, spot(5, 25), 5))
	want(t, "5 on 30", span(0, 10), api.OK)(sack.Have(s, spot(5, 30), 5))
	want(t, "5 on 30, later", span(0, 5), api.OK)(sack.Have(s, spot(5, 30), 9))
	want(t, "1", span(45, 60), api.OK)(sack.Went(s, 1, 5))
	want(t, "3", span(20, 30), api.OK)(sack.Went(s, 3, 5))
	want(t, "4", span(50, 60), api.OK)(sack.Went(s, 4, 5))
	want(t, "4, later", span(50, 60), api.OK)(sack.Went(s, 4, 9))
}

func TestExampleFlows(t *testing.T) {
	s := example()
	wantError(t, "true", api.OK, sack.CheckFlow(s, 5, list(50, 30, 25, 55)))
	wantError(t, "5 has too few", api.ErrFlow, sack.CheckFlow(s, 5, list(50, 30, 15, 45)))
	wantError(t, "three", api.ErrFlow, sack.CheckFlow(s, 5, list(50, 30, 25)))
	want(t, "5 on 20", 55, api.OK)(sack.Had(s, list(50, 30, 25, 55), spot(5, 20), 5))
	want(t, "3 on 99", 25, api.OK)(sack.Had(s, list(50, 30, 25, 55), spot(3, 99), 5))
	want(t, "all on 10", span(75, 90), api.OK)(sack.Total(s, 10, 5))
	want(t, "all on 30", span(25, 40), api.OK)(sack.Total(s, 30, 5))
	want(t, "77", span(45, 60), api.OK)(sack.Rests(s, 77, 5))
	want(t, "78", span(0, 0), api.OK)(sack.Rests(s, 78, 5))
	wantList(t, "without 77", list(3, 5), api.OK)(sack.Moved(s, 77, 20, 5))
	less := must[api.Sacks](t, s)(sack.Without(s, 77))
	want(t, "without 77", false, api.OK)(sack.Sound(less, 5))
}

func TestExampleClash(t *testing.T) {
	s, over := example(), fence(true, spot(3, 10))
	want(t, s, false, api.OK)(sack.Sound(s, 12))
	wantList(t, s, list(13), api.OK)(sack.Clash(s, 12))
	wantError(t, s, api.OK, sack.CheckClash(s, 12, list(13)))
	wantError(t, over, api.OK, sack.CheckFence(s, 12, over))
	wantError(t, "not over", api.ErrFence, sack.CheckFence(s, 12, fence(false, spot(3, 10))))
	wantError(t, "earlier", api.ErrFence, sack.CheckFence(s, 11, over))
}

func TestExampleTexts(t *testing.T) {
	text := "pass 1 0 3 10 40 60 77 0 0\npass 2 0 5 10 20 30 0 0 0\npass 3 3 5 20 0 30 0 0 0\npass 4 5 0 30 50 70 0 0 0\n" +
		"hoard 11 3 20 25 40 0 0\nhoard 12 5 30 0 5 9 0\nhoard 13 3 10 0 39 12 0\n"
	want(t, "the example", text, api.OK)(sack.Print(example()))
	wantParsed(t, text, example())
	wantList(t, "its dates", list(0, 9, 12), api.OK)(sack.Dates(example()))
}

// TestExampleOfDocument: the fifth one of DOC.md.
func TestExampleOfDocument(t *testing.T) {
	s := api.Sacks{
		Passes: []api.Pass{{Source: 6, From: 0, To: 2, Day: 10, Gallons: span(40, 60), Cert: 5, Known: 5}},
		Hoards: []api.Hoard{{Source: 7, Family: 2, Day: 20, Gallons: span(0, 45), Known: 5}},
	}
	want(t, "2 on 30", span(40, 45), api.OK)(sack.Have(s, spot(2, 30), 5))
	want(t, "5", span(40, 45), api.OK)(sack.Rests(s, 5, 5))
	want(t, "before it is known", span(0, 0), api.OK)(sack.Have(s, spot(2, 30), 4))
}
