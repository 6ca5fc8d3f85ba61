package mill_test

import (
	"slices"
	"testing"

	"leazing/api"
	"leazing/mill"
)

// yield is Y, and example M, of the chapter's examples.
func yield() api.Yield { return api.Yield{Gallons: span(40, 60), Toll: 16} }

func example() api.Mill {
	return api.Mill{Hours: 6, Comers: []api.Comer{{Family: 7, Hours: 7, Wants: 4}, {Family: 4, Hours: 6, Wants: 1}, {Family: 9, Hours: 28, Wants: 3}, {Family: 2, Hours: 24, Wants: 2}}}
}

func list(numbers ...int) []int { return numbers }

func span(lo, hi int) api.Range { return api.Range{Lo: lo, Hi: hi} }

// with returns a mill with more comers.
func with(m api.Mill, more ...api.Comer) api.Mill {
	return api.Mill{Hours: m.Hours, Comers: slices.Concat(m.Comers, more)}
}

// want wants a value and an error.
func want[T comparable](t *testing.T, what any, want T, wantError api.Errno) func(T, api.Errno) {
	return func(got T, e api.Errno) {
		t.Helper()
		if e != wantError || got != want {
			t.Errorf("%+v: %v, error %d, want %v, error %d", what, got, e, want, wantError)
		}
	}
}

// wantList wants a list and an error.
func wantList(t *testing.T, what any, want []int, wantError api.Errno) func([]int, api.Errno) {
	return func(got []int, e api.Errno) {
		t.Helper()
		if e != wantError || !slices.Equal(got, want) {
			t.Errorf("%+v: %v, error %d, want %v, error %d", what, got, e, want, wantError)
		}
	}
}

// wantMill wants a mill and an error.
func wantMill(t *testing.T, what any, want api.Mill, wantError api.Errno) func(api.Mill, api.Errno) {
	return func(got api.Mill, e api.Errno) {
		t.Helper()
		if e != wantError || got.Hours != want.Hours || !slices.Equal(got.Comers, want.Comers) {
			t.Errorf("%+v: %+v, error %d, want %+v, error %d", what, got, e, want, wantError)
		}
	}
}

func wantError(t *testing.T, what any, want, got api.Errno) {
	t.Helper()
	if got != want {
		t.Errorf("%+v: error %d, want %d", what, got, want)
	}
}

func TestExampleYields(t *testing.T) {
	y, half := yield(), api.Yield{Gallons: span(50, 50), Toll: 16}
	want(t, "threshed", span(4, 21), api.OK)(mill.Threshed(y, span(10, 35)))
	want(t, "toll", 1, api.OK)(mill.Toll(y, 21))
	want(t, "flour", span(4, 20), api.OK)(mill.Flour(y, span(10, 35)))
	want(t, "flour", span(15, 23), api.OK)(mill.Flour(y, span(40, 40)))
	want(t, "bundles", span(7, 12), api.OK)(mill.Bundles(y, span(4, 4)))
	want(t, "bundles", span(6, 7), api.OK)(mill.Bundles(half, span(3, 3)))
	want(t, "wants", 4, api.OK)(mill.Wants(25, 8))
	want(t, "wants", 3, api.OK)(mill.Wants(24, 8))
}

func TestExampleHours(t *testing.T) {
	m := example()
	want(t, "level", 1, api.OK)(mill.Level(m))
	wantList(t, "hours", list(2, 1, 1, 1), api.OK)(mill.Hours(m))
	wantError(t, "a share", api.OK, mill.CheckShare(m, list(7, 7, 4, 9, 2, 0)))
	wantError(t, "another one", api.OK, mill.CheckShare(m, list(7, 7, 4, 2, 9, 0)))
	wantError(t, "two hours for 2", api.ErrShare, mill.CheckShare(m, list(7, 4, 9, 2, 2, 0)))
	share, e := mill.Share(m)
	wantError(t, share, api.OK, e)
	wantError(t, share, api.OK, mill.CheckShare(m, share))
}

func TestExampleCrowds(t *testing.T) {
	m, demands := example(), list(2, 1, 2, 1)
	want(t, "serves", false, api.OK)(mill.Serves(m, demands))
	wantList(t, "the only crowd", list(2, 4, 7, 9), api.OK)(mill.Crowd(m, demands))
	wantError(t, "4 and 7", api.ErrCrowd, mill.CheckCrowd(m, demands, list(4, 7)))
	wantError(t, "2 alone", api.OK, mill.CheckCrowd(m, list(0, 2, 0, 3), list(2)))
	wantList(t, "unserved", nil, api.ErrEnough)(mill.Unserved(m))
	m = with(m, api.Comer{Family: 5, Hours: 6, Wants: 1})
	wantList(t, "unserved with 5", nil, api.ErrEnough)(mill.Unserved(m))
	m = with(m, api.Comer{Family: 6, Hours: 6, Wants: 1})
	crowd, e := mill.Unserved(m)
	wantError(t, crowd, api.OK, e)
	wantError(t, crowd, api.OK, mill.CheckCrowd(m, list(1, 1, 1, 1, 1, 1), crowd))
	wantError(t, "two hours for three", api.OK, mill.CheckCrowd(m, list(1, 1, 1, 1, 1, 1), list(4, 5, 6)))
}

func TestExampleSurely(t *testing.T) {
	m := example()
	want(t, "7 at 0", api.Yes, api.OK)(mill.Comes(m, 7, 0))
	want(t, "9 at 3", api.Maybe, api.OK)(mill.Comes(m, 9, 3))
	want(t, "9 at 2", api.No, api.OK)(mill.Comes(m, 9, 2))
	wantList(t, "idle", list(5), api.OK)(mill.Idle(m))
	wantList(t, "moved by 2", list(9), api.OK)(mill.Moved(m, 2))
	wantList(t, "moved by 4", list(9), api.OK)(mill.Moved(m, 4))
}

// TestExampleOfTheOverview: the eighth example of DOC.md.
func TestExampleOfTheOverview(t *testing.T) {
	m := api.Mill{Hours: 2}
	for _, c := range []api.Comer{{Family: 2, Hours: 3, Wants: 2}, {Family: 3, Hours: 1, Wants: 1}} {
		var e api.Errno
		m, e = mill.With(m, c)
		wantError(t, c, api.OK, e)
	}
	want(t, "level", 1, api.OK)(mill.Level(m))
	wantList(t, "share", list(3, 2), api.OK)(mill.Share(m))
}
