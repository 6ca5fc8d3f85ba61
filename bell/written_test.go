package bell_test

import (
	"math"
	"math/rand"
	"testing"

	"leazing/api"
	"leazing/bell"
)

// P9.1: what is written in a book, and how it is bound, torn and written anew.

// writes are the functions that write of one field.
func writes() map[string][2]func(api.Watch, int) (api.Watch, api.Errno) {
	return map[string][2]func(api.Watch, int) (api.Watch, api.Errno){
		"Want": {bell.Want, wished},
		"Ring": {bell.Ring, rung},
		"Shut": {bell.Shut, shut},
	}
}

// checkWrites wants what a watch writes of a field, and returns the errors.
func checkWrites(t *testing.T, w api.Watch, field int) map[string]api.Errno {
	t.Helper()
	errors := map[string]api.Errno{}
	for name, do := range writes() {
		due, e := do[1](w, field)
		want(t, []any{name, w, field}, due, e)(do[0](w, field))
		errors[name] = e
	}
	return errors
}

// checkBooks wants what else is done to a watch.
func checkBooks(t *testing.T, w api.Watch, left int) {
	t.Helper()
	due, e := served(w)
	want(t, []any{"Serve", w}, due, e)(bell.Serve(w))
	due, e = boundWhole(w)
	want(t, []any{"Bind", w}, due, e)(bell.Bind(w))
	due, e = torn(w, left)
	want(t, []any{"Tear", w, left}, due, e)(bell.Tear(w, left))
	due, e = recopied(w)
	want(t, []any{"Recopy", w}, due, e)(bell.Recopy(w))
}

func TestWrites(t *testing.T) {
	count := map[string]map[api.Errno]int{"Want": {}, "Ring": {}, "Shut": {}}
	rounds(20, 12000, func(r *rand.Rand) {
		w := mixedWatch(r)
		field := anyField(r, w)
		if r.Intn(4) == 0 {
			w = opened(w, field)
		}
		for name, e := range checkWrites(t, w, field) {
			count[name][e]++
		}
	})
	for name, errors := range map[string][]api.Errno{
		"Want": {api.OK, api.ErrWatch, api.ErrMine, api.ErrRung, api.ErrLong},
		"Ring": {api.OK, api.ErrWatch, api.ErrMine, api.ErrRung, api.ErrTally, api.ErrLong},
		"Shut": {api.OK, api.ErrWatch, api.ErrMine, api.ErrShut, api.ErrLong},
	} {
		for _, e := range errors {
			if count[name][e] < 20 {
				t.Error("tried:", name, e, count)
			}
		}
	}
}

func TestBooks(t *testing.T) {
	given := map[int]int{}
	count := map[api.Errno]int{}
	kept := map[bool]int{}
	rounds(21, 8000, func(r *rand.Rand) {
		w := mixedWatch(r)
		checkBooks(t, w, oneOf(r, odd(r), r.Intn(121), -r.Intn(121), len(w.Strokes)-w.Bound))
		after, e := served(w)
		count[e]++
		if e == api.OK {
			given[len(after.Strokes)-len(w.Strokes)]++
			anew, _ := recopied(w)
			kept[len(anew.Strokes) == len(w.Strokes)]++
		}
	})
	if count[api.OK] < 3000 || count[api.ErrWatch] < 200 || count[api.ErrLong] < 100 {
		t.Error("tried:", count)
	}
	if given[0] < 500 || given[1] < 500 || given[2] < 200 || given[3] < 50 || kept[false] < 500 || kept[true] < 500 {
		t.Error("tried:", given, kept)
	}
}

// filled returns a watch with so many strokes, of which the field 7 is shut, and the tallies of the parish 0 are here.
func filled(n int) api.Watch {
	w := watch(0)
	for no := range n {
		w.Strokes = append(w.Strokes, asked(7, 1, no+1))
	}
	return w
}

func with(w api.Watch, more ...api.Stroke) api.Watch {
	w.Strokes = append(append([]api.Stroke(nil), w.Strokes...), more...)
	return w
}

// TestFull: books that are full, or would be too long.
func TestFull(t *testing.T) {
	for n := 116; n <= 120; n++ {
		w := filled(n)
		want(t, n, none(n < 120, with(w, wants(7, 1))), verdict(n < 120, api.ErrLong))(bell.Want(w, 7))
		want(t, n, none(n < 120, with(w, bells(7, 1))), verdict(n < 120, api.ErrLong))(bell.Ring(w, 7))
		w = filled(n - 1)
		w.Strokes = append(w.Strokes, wants(7, 1))
		want(t, n, w, api.OK)(bell.Want(w, 7)) // nothing has to be written
		want(t, n, none(n < 119, with(w, bells(7, 1), wants(7, 2))), verdict(n < 119, api.ErrLong))(bell.Ring(w, 7))
		w = with(filled(n-2), bells(7, 1), wants(7, 2))
		want(t, n, none(n < 120, with(w, bells(7, 0))), verdict(n < 120, api.ErrLong))(bell.Shut(w, 7))
		w = with(filled(n-2), asked(7, 1, 99999), asked(7, 3, 1))
		want(t, n, none(n < 119, with(w, tally(7, 1, 1), tally(7, 3, 1))), verdict(n < 119, api.ErrLong))(bell.Serve(w))
		w = with(filled(n-2), asked(7, 1, 99998), asked(7, 3, 2))
		want(t, n, w, api.OK)(bell.Serve(w))
		heard := api.Peal{From: 1, To: 0, Told: list(told(7, 2, 99999))}
		w = filled(n)
		want(t, n, none(n < 119, with(w, asked(7, 1, 99999), tally(7, 1, 2))), verdict(n < 119, api.ErrLong))(bell.Hear(w, heard))
		heard.Told[0].Wants = 0
		want(t, n, none(n < 120, with(w, tally(7, 1, 2))), verdict(n < 120, api.ErrLong))(bell.Hear(w, heard))
		heard.Told[0].No = 1
		want(t, n, w, api.OK)(bell.Hear(w, heard))
	}
	full := filled(120)
	for _, c := range []struct {
		w    api.Watch
		ring api.Errno
		shut api.Errno
	}{
		{full, api.ErrLong, api.ErrShut},
		{with(filled(119), bells(7, 1)), api.ErrRung, api.ErrLong},
		{with(filled(119), tally(7, 3, 1)), api.ErrTally, api.ErrShut},
	} {
		want(t, c, api.Watch{}, c.ring)(bell.Ring(c.w, 7))
		want(t, c, api.Watch{}, c.shut)(bell.Shut(c.w, 7))
		checkBooks(t, c.w, 0)
	}
	want(t, "more than can be", api.Watch{}, api.ErrWatch)(bell.Want(filled(121), 7))
}

// TestGreatestNumbers: a number greater than MaxTally is never written.
func TestGreatestNumbers(t *testing.T) {
	w := watch(0, wants(7, 99998))
	want(t, w, with(w, wants(7, 99999)), api.OK)(bell.Want(w, 7))
	want(t, w, with(w, bells(7, 1)), api.OK)(bell.Ring(w, 7))
	w = watch(0, wants(7, 99997))
	want(t, w, with(w, bells(7, 1), wants(7, 99998)), api.OK)(bell.Ring(w, 7))
	w = watch(0, wants(7, 99999))
	want(t, w, w, api.OK)(bell.Want(w, 7))
	want(t, w, api.Watch{}, api.ErrLong)(bell.Ring(w, 7))
	open := watch(0, bells(7, 1), wants(7, 99999))
	want(t, open, api.Watch{}, api.ErrRung)(bell.Ring(open, 7))
	want(t, open, with(open, bells(7, 0)), api.OK)(bell.Shut(open, 7))
	w = watch(1, wants(7, 99999))
	want(t, w, api.Watch{}, api.ErrTally)(bell.Ring(w, 7))

	// The parish 1 has the tally with 0 if its number is odd, and that with 3 if it is even.
	for _, c := range []struct {
		other, no int
		given     bool
	}{{0, 99996, false}, {0, 99997, true}, {0, 99998, false}, {0, 99999, false}, {3, 99996, true}, {3, 99997, false}, {3, 99998, true}, {3, 99999, false}} {
		w := watch(1, asked(7, c.other, 99999), tally(7, c.other, c.no))
		due := w
		if c.given {
			due = with(w, tally(7, c.other, c.no+1))
		}
		want(t, c, due, api.OK)(bell.Serve(w))
	}
}

func TestWant(t *testing.T) {
	for _, c := range []struct {
		before []api.Stroke
		no     int // 0 if nothing is written
		e      api.Errno
	}{
		{nil, 1, api.OK},
		{list(wants(7, 1)), 0, api.OK},
		{list(wants(7, 1), wants(7, 2)), 3, api.OK},
		{list(wants(7, 2)), 3, api.OK},
		{list(wants(7, 4), asked(7, 1, 9)), 5, api.OK},
		{list(bells(7, 1)), 0, api.ErrRung},
		{list(bells(7, 1), bells(7, 0)), 1, api.OK},
		{list(wants(7, 1), bells(7, 1)), 0, api.ErrRung},
		{list(wants(7, 1), bells(7, 1), wants(7, 2)), 0, api.ErrRung},
		{list(wants(7, 1), bells(7, 1), bells(7, 0)), 0, api.OK},
	} {
		w := watch(0, c.before...)
		due := w
		if c.no > 0 {
			due = with(w, wants(7, c.no))
		}
		want(t, c, none(c.e == api.OK, due), c.e)(bell.Want(w, 7))
	}
}

// TestRing: a bell is rung with all tallies, clean or not, wanted or not.
func TestRing(t *testing.T) {
	for _, c := range []struct {
		before, more []api.Stroke
		e            api.Errno
	}{
		{nil, nil, api.ErrTally},
		{list(wants(7, 1)), nil, api.ErrTally},
		{list(tally(7, 0, 2)), nil, api.ErrTally},
		{list(tally(7, 0, 1), tally(7, 3, 1)), nil, api.ErrTally},
		{list(tally(7, 0, 1)), list(bells(7, 1)), api.OK},
		{list(tally(7, 0, 99999), tally(7, 3, 99998)), list(bells(7, 1)), api.OK},
		{list(tally(7, 0, 1), wants(7, 2)), list(bells(7, 1)), api.OK},
		{list(tally(7, 0, 1), wants(7, 3)), list(bells(7, 1), wants(7, 4)), api.OK},
		{list(wants(7, 3), tally(7, 0, 1)), list(bells(7, 1), wants(7, 4)), api.OK},
		{list(tally(7, 0, 1), bells(7, 1)), nil, api.ErrRung},
		{list(tally(7, 0, 1), wants(7, 1), bells(7, 1)), nil, api.ErrRung},
		{list(tally(7, 0, 1), wants(7, 1), bells(7, 1), bells(7, 0)), list(bells(7, 1), wants(7, 2)), api.OK},
	} {
		w := watch(1, c.before...)
		want(t, c, none(c.e == api.OK, with(w, c.more...)), c.e)(bell.Ring(w, 7))
		if c.e == api.OK {
			open := with(w, c.more...)
			want(t, c, with(open, bells(7, 0)), api.OK)(bell.Shut(open, 7))
		}
		if c.e != api.ErrRung {
			want(t, c, api.Watch{}, api.ErrShut)(bell.Shut(w, 7))
		}
	}
}

// TestServe: which tallies are given, by what was written of one with the parish 0.
func TestServe(t *testing.T) {
	for _, c := range []struct {
		before []api.Stroke
		no     int // 0 if it is not given
	}{
		{nil, 0},
		{list(tally(7, 0, 1)), 0},
		{list(asked(7, 0, 1)), 0},
		{list(asked(7, 0, 1), tally(7, 0, 1)), 2},
		{list(asked(7, 0, 7), tally(7, 0, 5)), 6},
		{list(asked(7, 0, 2), tally(7, 0, 1)), 0},
		{list(asked(7, 0, 1), tally(7, 0, 2)), 0},
		{list(asked(7, 0, 1), tally(7, 0, 1), wants(7, 1)), 2},
		{list(asked(7, 0, 1), wants(7, 1), tally(7, 0, 1)), 0},
		{list(asked(7, 0, 1), wants(7, 2), tally(7, 0, 1)), 2},
		{list(asked(7, 0, 1), wants(7, 1), tally(7, 0, 1), wants(7, 2)), 2},
		{list(asked(7, 0, 1), tally(7, 0, 1), bells(7, 1)), 0},
		{list(asked(7, 0, 1), tally(7, 0, 1), bells(7, 1), bells(7, 0)), 2},
		{list(asked(7, 3, 1), tally(7, 0, 1), tally(7, 3, 1)), 0},
	} {
		w := watch(1, c.before...)
		due := w
		if c.no > 0 {
			due = with(w, tally(7, 0, c.no))
		}
		want(t, c, due, api.OK)(bell.Serve(w))
	}
}

// TestServeOrder: tallies are given by their fields, and then by the other parishes.
func TestServeOrder(t *testing.T) {
	w := api.Watch{Me: 2, Borders: list(border(1, 0, 1, 2, 3, 4, 5), border(50, 2, 5), border(98, 2, 3), border(99, 1, 2, 3))}
	w.Strokes = list(asked(99, 3, 1), asked(99, 1, 1), asked(98, 3, 1), bells(98, 1), asked(50, 5, 3), tally(50, 5, 2))
	for _, p := range list(5, 4, 3, 1, 0) {
		w.Strokes = append(w.Strokes, asked(1, p, 1))
	}
	w.Strokes = append(w.Strokes, tally(1, 0, 1), wants(1, 1), tally(1, 1, 1), tally(1, 4, 2))
	due := with(w, tally(1, 0, 2), tally(1, 3, 1), tally(1, 5, 1), tally(50, 5, 3), tally(99, 3, 1))
	want(t, w, due, api.OK)(bell.Serve(w))
}

func TestTear(t *testing.T) {
	all := list(wants(7, 1), asked(7, 1, 1), asked(7, 3, 1), bells(7, 1), wants(7, 2))
	for bound := range 6 {
		w := watch(0, all...)
		w.Bound = bound
		for left := -20; left <= 20; left++ {
			due := w
			due.Strokes = all[:bound+choice(left, 6-bound)]
			want(t, []any{bound, left}, due, api.OK)(bell.Tear(w, left))
		}
		for _, left := range list(math.MinInt, math.MinInt+1, math.MaxInt-1, math.MaxInt) {
			checkBooks(t, w, left)
		}
		whole := w
		whole.Bound = 5
		want(t, bound, whole, api.OK)(bell.Bind(w))
	}
	w := filled(120)
	want(t, "all are left", w, api.OK)(bell.Tear(w, 120))
	want(t, "none is left", watch(0), api.OK)(bell.Tear(w, 121))
	want(t, "none is left", watch(0), api.OK)(bell.Tear(w, -121))
	want(t, "all are left", w, api.OK)(bell.Tear(w, -1))
}

func TestRecopy(t *testing.T) {
	b := list(border(1, 0, 1, 2, 3, 4, 5), border(99, 2, 5))
	w := api.Watch{Me: 2, Borders: b, Bound: 1, Strokes: list(
		asked(99, 5, 99999), asked(1, 5, 2), asked(1, 5, 3), tally(1, 5, 2), tally(1, 0, 1), tally(1, 1, 2), wants(1, 1), wants(1, 3),
		tally(1, 4, 1), tally(1, 0, 3), tally(1, 3, 4), asked(1, 0, 8), wants(99, 2), tally(1, 4, 2), tally(1, 1, 3), bells(1, 1), wants(99, 3), bells(99, 1),
	)}
	due := api.Watch{Me: 2, Borders: b, Bound: 13, Strokes: list(
		tally(1, 5, 2), wants(1, 3), tally(1, 0, 3), tally(1, 1, 3), tally(1, 3, 4), tally(1, 4, 2), asked(1, 0, 8), asked(1, 5, 3), bells(1, 1),
		wants(99, 3), asked(99, 5, 99999), bells(99, 1),
	)}
	due.Bound = len(due.Strokes)
	want(t, w, due, api.OK)(bell.Recopy(w))
	want(t, due, due, api.OK)(bell.Recopy(due))
	empty := watch(1)
	want(t, empty, empty, api.OK)(bell.Recopy(empty))
	shut := watch(0, bells(7, 1), bells(7, 0))
	shut.Bound = 1
	want(t, shut, watch(0), api.OK)(bell.Recopy(shut))
}

// TestLongestRecopy: all that can be in a book of four fields.
func TestLongestRecopy(t *testing.T) {
	w := api.Watch{Me: 3}
	for _, field := range list(1, 2, 98, 99) {
		w.Borders = append(w.Borders, border(field, 0, 1, 2, 3, 4, 5))
		w.Strokes = append(w.Strokes, wants(field, 1))
		for p := range 6 {
			if p != 3 {
				w.Strokes = append(w.Strokes, asked(field, p, 1), tally(field, p, 1+p/3))
			}
		}
		w.Strokes = append(w.Strokes, bells(field, 1))
	}
	due, e := recopied(w)
	want(t, w, due, e)(bell.Recopy(w))
	if len(due.Strokes) != 48 || len(w.Strokes) != 48 {
		t.Error("tried:", len(w.Strokes), len(due.Strokes))
	}
}
