package sheaf_test

import (
	"slices"
	"testing"

	"leazing/api"
	"leazing/sheaf"
)

// example is the plot P of the chapter's section Examples.
func example() api.Plot {
	return api.Plot{
		Sown: api.Range{Lo: 100, Hi: 120}, Geese: 2,
		Loads: []api.Load{
			{Source: 1, Hour: 30, Sheaves: api.Range{Lo: 40, Hi: 50}},
			{Source: 2, Hour: 35, Sheaves: api.Range{Lo: 30, Hi: 40}},
			{Source: 3, Hour: 58, Sheaves: api.Range{Lo: 10, Hi: 60}, Known: 4},
		},
		Stands: []api.Stand{
			{Source: 11, Hour: 35, Sheaves: api.Range{Lo: 20, Hi: 35}, Known: 2},
			{Source: 12, Hour: 58, Sheaves: api.Range{Lo: 0, Hi: 5}, Known: 5},
			{Source: 13, Hour: 58, Sheaves: api.Range{Lo: 0, Hi: 0}, Known: 6},
			{Source: 14, Hour: 30, Sheaves: api.Range{Lo: 80, Hi: 90}, Known: 9},
		},
		Spells: []api.Spell{
			{Source: 21, Kind: api.SpGuard, From: 58, To: 60, Known: 4},
			{Source: 22, Kind: api.SpRain, From: 64, To: 70, Known: 5},
		},
	}
}

// rowOf is a row of the chapter's examples: an hour or a source, a day, and the result.
type rowOf[T comparable] struct {
	at, known int
	want      T
}

func checkRows[T comparable](t *testing.T, name string, call func(p api.Plot, at, known int) (T, api.Errno), rows []rowOf[T]) {
	t.Helper()
	for _, row := range rows {
		if got, e := call(example(), row.at, row.known); e != api.OK || got != row.want {
			t.Errorf("%s(P, %d, %d) = %v, %d; want %v", name, row.at, row.known, got, e, row.want)
		}
	}
}

func TestExamplesOfRanges(t *testing.T) {
	checkRows(t, "Stood", sheaf.Stood, []rowOf[api.Range]{
		{29, 1, api.Range{Lo: 100, Hi: 120}}, {30, 1, api.Range{Lo: 50, Hi: 80}}, {35, 1, api.Range{Lo: 10, Hi: 50}},
		{35, 2, api.Range{Lo: 20, Hi: 35}}, {30, 2, api.Range{Lo: 50, Hi: 75}},
	})
	checkRows(t, "Carted", sheaf.Carted, []rowOf[api.Range]{
		{1, 2, api.Range{Lo: 40, Hi: 50}}, {3, 4, api.Range{Lo: 10, Hi: 35}}, {3, 5, api.Range{Lo: 15, Hi: 35}},
	})
	first := func(p api.Plot, _, known int) (api.Range, api.Errno) { return sheaf.First(p, known) }
	checkRows(t, "First", first, []rowOf[api.Range]{
		{0, 2, api.Range{Lo: 100000, Hi: 100000}}, {0, 5, api.Range{Lo: 58, Hi: 100000}}, {0, 6, api.Range{Lo: 58, Hi: 58}},
	})
}

func TestExamplesOfAnswers(t *testing.T) {
	checkRows(t, "Clear", sheaf.Clear, []rowOf[int]{{58, 4, api.Maybe}, {58, 6, api.Yes}, {57, 6, api.No}})
	checkRows(t, "Shut", sheaf.Shut, []rowOf[bool]{{60, 6, true}, {61, 6, false}, {67, 6, true}, {80, 6, false}})
	checkRows(t, "Open", sheaf.Open, []rowOf[int]{
		{61, 5, api.Maybe}, {61, 6, api.Yes}, {60, 6, api.No}, {105, 6, api.Yes}, {106, 6, api.No},
	})
}

func TestExamplesOfClashes(t *testing.T) {
	if sound, e := sheaf.Sound(example(), 9); sound || e != api.OK {
		t.Error("Sound:", sound, e)
	}
	if l, e := sheaf.Clash(example(), 9); e != api.OK || !slices.Equal(l, []int{2, 11, 14}) {
		t.Error("Clash:", l, e)
	}
	if e := sheaf.CheckClash(example(), 9, []int{2, 11, 14}); e != api.OK {
		t.Error("CheckClash of 2, 11, 14:", e)
	}
	if e := sheaf.CheckClash(example(), 9, []int{2, 14}); e != api.ErrSound {
		t.Error("CheckClash of 2, 14:", e)
	}
	if l, e := sheaf.Moved(example(), 11, 2); e != api.OK || !slices.Equal(l, []int{30, 35, 58}) {
		t.Error("Moved:", l, e)
	}
}

// TestExamplesOfTheOverview: the second example of DOC.md, whose bell rings at the hour 8.
func TestExamplesOfTheOverview(t *testing.T) {
	p := api.Plot{
		Sown: api.Range{Lo: 40, Hi: 50}, Geese: 3,
		Loads: []api.Load{
			{Source: 1, Hour: 30, Sheaves: api.Range{Lo: 20, Hi: 25}, Known: 5},
			{Source: 2, Hour: 34, Sheaves: api.Range{Lo: 20, Hi: 25}, Known: 5},
		},
		Stands: []api.Stand{{Source: 3, Hour: 34, Known: 8}},
	}
	if r, e := sheaf.Stood(p, 34, 5); e != api.OK || r != (api.Range{Lo: 0, Hi: 10}) {
		t.Error("Stood:", r, e)
	}
	if a, e := sheaf.Clear(p, 34, 5); e != api.OK || a != api.Maybe {
		t.Error("Clear, day 5:", a, e)
	}
	if a, e := sheaf.Clear(p, 34, 8); e != api.OK || a != api.Yes {
		t.Error("Clear, day 8:", a, e)
	}
	if a, e := sheaf.Open(p, 36, 8); e != api.OK || a != api.Yes {
		t.Error("Open:", a, e)
	}
}
