package bell_test

import (
	"math/rand"
	"testing"

	"leazing/api"
	"leazing/bell"
)

// P9.1: what parishes tell each other.

func TestTells(t *testing.T) {
	count := map[api.Errno]int{}
	many := map[int]int{}
	rounds(30, 6000, func(r *rand.Rand) {
		w := mixedWatch(r)
		to := oneOf(r, r.Intn(6), r.Intn(6), odd(r))
		p, e := tellDue(w, to)
		count[e]++
		many[len(p.Told)]++
		want(t, []any{w, to}, p, e)(bell.Tell(w, to))
	})
	for _, e := range list(api.OK, api.ErrWatch, api.ErrArg) {
		if count[e] < 200 {
			t.Error("tried:", count)
		}
	}
	if many[0] < 200 || many[1] < 200 || many[2] < 200 || many[4] < 20 {
		t.Error("tried:", many)
	}
}

// TestTellBound: what is told is what was bound.
func TestTellBound(t *testing.T) {
	w := watch(1, wants(7, 1), tally(7, 0, 1), tally(7, 3, 3), bells(7, 0)) // not valid: it is not open
	want(t, w, api.Peal{}, api.ErrWatch)(bell.Tell(w, 0))
	w = watch(1, wants(7, 1), tally(7, 0, 1), tally(7, 3, 2), bells(7, 1), wants(7, 2))
	for bound, due := range [][2]api.Told{
		{told(7, 0, 0), told(7, 0, 0)}, {told(7, 0, 1), told(7, 0, 1)}, {told(7, 1, 1), told(7, 0, 1)},
		{told(7, 1, 1), told(7, 2, 1)}, {told(7, 1, 1), told(7, 2, 1)}, {told(7, 1, 2), told(7, 2, 2)},
	} {
		w.Bound = bound
		want(t, bound, api.Peal{From: 1, To: 0, Told: list(due[0])}, api.OK)(bell.Tell(w, 0))
		want(t, bound, api.Peal{From: 1, To: 3, Told: list(due[1])}, api.OK)(bell.Tell(w, 3))
		want(t, bound, api.Peal{From: 1, To: 2}, api.OK)(bell.Tell(w, 2)) // who shares no field
	}
	for _, to := range list(-1, 1, 6) {
		want(t, to, api.Peal{}, api.ErrArg)(bell.Tell(w, to))
	}
	four := api.Watch{Me: 5, Borders: list(border(1, 0, 5), border(2, 1, 5), border(3, 0, 1, 5), border(99, 0, 5)), Bound: 3}
	four.Strokes = list(tally(3, 0, 99999), wants(99, 99999), wants(2, 4))
	want(t, four, api.Peal{From: 5, To: 0, Told: list(told(1, 0, 0), told(3, 99999, 0), told(99, 0, 99999))}, api.OK)(bell.Tell(four, 0))
	want(t, four, api.Peal{From: 5, To: 1, Told: list(told(2, 0, 4), told(3, 0, 0))}, api.OK)(bell.Tell(four, 1))
	want(t, "no borders", api.Peal{From: 5, To: 1}, api.OK)(bell.Tell(api.Watch{Me: 5}, 1))
}

func TestHears(t *testing.T) {
	count := map[api.Errno]int{}
	many := map[int]int{}
	rounds(31, 10000, func(r *rand.Rand) {
		w := mixedWatch(r)
		if r.Intn(4) == 0 {
			w = opened(w, anyField(r, w))
		}
		p := anyPeal(r, w)
		if r.Intn(6) == 0 {
			p = spoiltPeal(r, p)
		}
		after, e := heard(w, p)
		count[e]++
		if e == api.OK {
			many[len(after.Strokes)-len(w.Strokes)]++
		}
		want(t, []any{w, p}, after, e)(bell.Hear(w, p))
		wantError(t, p, verdict(isPeal(p), api.ErrPeal), bell.CheckPeal(p))
	})
	for _, e := range list(api.OK, api.ErrWatch, api.ErrPeal, api.ErrLong) {
		if count[e] < 200 {
			t.Error("tried:", count)
		}
	}
	if many[0] < 500 || many[1] < 500 || many[2] < 500 || many[3] < 50 || many[4] < 20 {
		t.Error("tried:", many)
	}
}

// TestHear: what a watch of the parish 1 hears of 0 of the field 7.
func TestHear(t *testing.T) {
	for _, c := range []struct {
		before    []api.Stroke
		no, wants int
		more      []api.Stroke
	}{
		{nil, 0, 0, nil},
		{nil, 1, 0, list(tally(7, 0, 1))},
		{nil, 2, 0, nil}, // the tally is with 0
		{nil, 3, 0, list(tally(7, 0, 3))},
		{nil, 99999, 99999, list(asked(7, 0, 99999), tally(7, 0, 99999))},
		{nil, 99998, 99998, list(asked(7, 0, 99998))},
		{nil, 0, 1, list(asked(7, 0, 1))},
		{nil, 1, 2, list(asked(7, 0, 2), tally(7, 0, 1))},
		{list(asked(7, 0, 2)), 1, 2, list(tally(7, 0, 1))},
		{list(asked(7, 0, 2)), 1, 1, list(tally(7, 0, 1))},
		{list(asked(7, 0, 2)), 1, 3, list(asked(7, 0, 3), tally(7, 0, 1))},
		{list(tally(7, 0, 1)), 1, 0, nil},
		{list(tally(7, 0, 2)), 1, 0, nil},
		{list(tally(7, 0, 2)), 3, 0, list(tally(7, 0, 3))},
		{list(tally(7, 0, 99999)), 3, 1, list(asked(7, 0, 1))},
		{list(tally(7, 0, 1), bells(7, 1)), 3, 1, list(asked(7, 0, 1))}, // while it is open
		{list(tally(7, 0, 1), bells(7, 1), bells(7, 0)), 3, 1, list(asked(7, 0, 1), tally(7, 0, 3))},
		{list(asked(7, 3, 8), tally(7, 3, 8)), 1, 1, list(asked(7, 0, 1), tally(7, 0, 1))},
	} {
		w := watch(1, c.before...)
		w.Bound = len(c.before)
		p := api.Peal{From: 0, To: 1, Told: list(told(7, c.no, c.wants))}
		after := with(w, c.more...)
		want(t, c, after, api.OK)(bell.Hear(w, p))
		want(t, c, after, api.OK)(bell.Hear(after, p))
	}
}

// TestHearOfOthers: what is told of fields that are no borders, and of those that are not shared, is passed over.
func TestHearOfOthers(t *testing.T) {
	w := api.Watch{Me: 1, Borders: list(border(1, 0, 1), border(50, 1, 2), border(99, 0, 1, 2))}
	p := api.Peal{From: 0, To: 1, Told: list(told(1, 1, 1), told(49, 1, 1), told(50, 1, 1), told(99, 1, 1))}
	want(t, p, with(w, asked(1, 0, 1), tally(1, 0, 1), asked(99, 0, 1), tally(99, 0, 1)), api.OK)(bell.Hear(w, p))
	p.From = 2 // whose tallies the parish 1 has, if their numbers are even
	want(t, p, with(w, asked(50, 2, 1), asked(99, 2, 1)), api.OK)(bell.Hear(w, p))
	p.Told = list(told(1, 2, 1), told(49, 2, 1), told(50, 2, 1), told(99, 2, 1))
	want(t, p, with(w, asked(50, 2, 1), tally(50, 2, 2), asked(99, 2, 1), tally(99, 2, 2)), api.OK)(bell.Hear(w, p))
	p.From = 5 // who shares no field
	want(t, p, w, api.OK)(bell.Hear(w, p))
	want(t, "nothing is told", w, api.OK)(bell.Hear(w, api.Peal{From: 0, To: 1}))
	want(t, "to another one", api.Watch{}, api.ErrPeal)(bell.Hear(w, api.Peal{From: 0, To: 2}))
	want(t, "of itself", api.Watch{}, api.ErrPeal)(bell.Hear(w, api.Peal{From: 1, To: 1}))
	none := api.Watch{Me: 1}
	want(t, "no borders", none, api.OK)(bell.Hear(none, p))
}
