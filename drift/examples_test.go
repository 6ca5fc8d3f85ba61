package drift_test

import (
	"slices"
	"testing"

	"leazing/api"
	"leazing/drift"
)

// ground is G, and claims L, of the chapter's examples.
func ground() api.Ground {
	return api.Ground{
		Chains: []api.Chain{{Id: 1, Link: api.Range{Lo: 98, Hi: 102}}, {Id: 2, Link: api.Range{Lo: 99, Hi: 100}}},
		Cells: []api.Cell{
			{Chain: 1, Links: 10, Worth: 6}, {Chain: 1, Links: 5, Worth: 2}, {Chain: 2, Links: 10, Worth: 4}, {Chain: 2, Links: 5, Worth: 9}, {Chain: 1, Links: 10, Worth: 3},
		},
	}
}

func claims() []api.Claim {
	return []api.Claim{{Family: 7, Heads: 2, From: 0, To: 3}, {Family: 4, Heads: 1, From: 1, To: 4}, {Family: 9, Heads: 3, From: 2, To: 4}}
}

func list(numbers ...int) []int { return numbers }

func cells(from, to int) api.Drift { return api.Drift{From: from, To: to} }

// row returns the drifts between numbers, two for each.
func row(ends ...int) []api.Drift {
	var drifts []api.Drift
	for i := 0; i < len(ends); i += 2 {
		drifts = append(drifts, cells(ends[i], ends[i+1]))
	}
	return drifts
}

// want wants a value and an error.
func want[T comparable](t *testing.T, what any, want T, wantError api.Errno) func(T, api.Errno) {
	return func(got T, e api.Errno) {
		t.Helper()
		if e != wantError || got != want {
			t.Errorf("%+v: %v, error %d, want %v, error %d", what, got, e, want, wantError)
		}
	}
}

// wantList wants a list without an error, or an error with an empty list.
func wantList[T comparable](t *testing.T, what any, want []T, wantError api.Errno) func([]T, api.Errno) {
	return func(got []T, e api.Errno) {
		t.Helper()
		if e != wantError || !slices.Equal(got, want) {
			t.Errorf("%+v: %v, error %d, want %v, error %d", what, got, e, want, wantError)
		}
	}
}

func wantError(t *testing.T, what any, want, got api.Errno) {
	t.Helper()
	if got != want {
		t.Errorf("%+v: error %d, want %d", what, got, want)
	}
}

func TestExampleLengths(t *testing.T) {
	want(t, "length", api.Range{Lo: 1470, Hi: 1530}, api.OK)(drift.Length(ground(), cells(0, 1)))
	want(t, "length", api.Range{Lo: 2460, Hi: 2530}, api.OK)(drift.Length(ground(), cells(0, 2)))
	want(t, "longer", api.Maybe, api.OK)(drift.Longer(ground(), cells(0, 0), cells(2, 2)))
	want(t, "longer", api.Yes, api.OK)(drift.Longer(ground(), cells(0, 1), cells(2, 2)))
	want(t, "longer", api.Yes, api.OK)(drift.Longer(ground(), cells(0, 1), cells(0, 0)))
}

func TestExampleSharings(t *testing.T) {
	best, four := row(0, 1, 2, 2, 3, 4), api.Gain{Num: 4, Den: 1}
	wantError(t, "the best", api.OK, drift.CheckDrifts(ground(), claims(), best))
	wantError(t, "twice the cell 1", api.ErrDrifts, drift.CheckDrifts(ground(), claims(), row(0, 1, 1, 2, 3, 4)))
	wantError(t, "two drifts", api.ErrDrifts, drift.CheckDrifts(ground(), claims(), row(0, 0, 2, 2)))
	wantList(t, "gains", []api.Gain{four, four, four}, api.OK)(drift.Gains(ground(), claims(), best))
	want(t, "least", four, api.OK)(drift.Least(ground(), claims()))
	wantList(t, "share", best, api.OK)(drift.Share(ground(), claims()))
	wantList(t, "moved", list(9), api.OK)(drift.Moved(ground(), claims()))
}

func TestExampleTurns(t *testing.T) {
	l := claims()
	for _, day := range list(1, 4) {
		wantList(t, day, []api.Claim{l[1], l[2], l[0]}, api.OK)(drift.Turn(ground(), l, day))
	}
	turned, _ := drift.Turn(ground(), l, 1)
	want(t, "least", api.Gain{Num: 4, Den: 3}, api.OK)(drift.Least(ground(), turned))
	wantList(t, "share", row(1, 1, 2, 2, 3, 3), api.OK)(drift.Share(ground(), turned))
}

func TestExampleWalls(t *testing.T) {
	for _, x := range []struct {
		starts []int
		gain   int
		want   api.Errno
	}{{list(0, 2, 3, 6), 4, api.OK}, {list(0, 2, 3, 6), 3, api.ErrWall}, {list(0, 3, 4, 6), 4, api.OK}} {
		wantError(t, x, x.want, drift.CheckWall(ground(), claims(), api.Wall{Starts: x.starts}, api.Gain{Num: x.gain, Den: 1}))
	}
	two := []api.Claim{{Family: 7, Heads: 1, From: 2, To: 2}, {Family: 4, Heads: 1, From: 2, To: 2}}
	want(t, "crowded", api.Crowd{First: 0, Last: 1}, api.OK)(drift.Crowded(ground(), two))
}

// TestExampleOfTheOverview: the seventh example of DOC.md.
func TestExampleOfTheOverview(t *testing.T) {
	g := api.Ground{Chains: []api.Chain{{Id: 1, Link: api.Range{Lo: 5, Hi: 6}}}, Cells: []api.Cell{{Chain: 1, Links: 10, Worth: 30}, {Chain: 1, Links: 10, Worth: 20}}}
	l := []api.Claim{{Family: 2, Heads: 1, From: 0, To: 1}, {Family: 3, Heads: 2, From: 0, To: 1}}
	turned, e := drift.Turn(g, l, 0)
	wantError(t, "turn", api.OK, e)
	want(t, "least", api.Gain{Num: 10, Den: 1}, api.OK)(drift.Least(g, turned))
	wantList(t, "share", row(0, 0, 1, 1), api.OK)(drift.Share(g, turned))
}
