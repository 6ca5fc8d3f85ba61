package bell_test

import (
	"math/rand"
	"testing"

	"leazing/api"
	"leazing/bell"
)

// P9.1: what a book says.

// checkAnswers wants all answers of a watch about a field and another parish, and returns them.
func checkAnswers(t *testing.T, w api.Watch, field, other int) []bool {
	t.Helper()
	what := []any{w, field, other}
	e := mineError(w, field, other)
	right := e == api.OK
	is := func(answer bool) bool { return right && answer }
	answers := []bool{is(holds(w, field, other)), is(clean(w, field, other))}
	want(t, what, none(right, number(w, api.SkTally, field, other)), e)(bell.Number(w, field, other))
	want(t, what, answers[0], e)(bell.Holds(w, field, other))
	want(t, what, answers[1], e)(bell.Clean(w, field, other))

	e = mineError(w, field)
	right = e == api.OK
	answers = append(answers, is(isOpen(w, field)), is(wanted(w, field)))
	want(t, what, answers[2], e)(bell.IsOpen(w, field))
	want(t, what, answers[3], e)(bell.Wanted(w, field))
	asks, lacks := none(right, askedOf(w, field)), none(right, missing(w, field))
	want(t, what, asks, e)(bell.Asked(w, field))
	want(t, what, lacks, e)(bell.Missing(w, field))
	return append(answers, len(asks) > 0, len(asks) > 1, len(lacks) > 0, len(lacks) > 1)
}

func TestAnswers(t *testing.T) {
	var yes, no [8]int
	count := map[api.Errno]int{}
	rounds(10, 8000, func(r *rand.Rand) {
		w := mixedWatch(r)
		field := anyField(r, w)
		other := anyOther(r, w, field)
		e := mineError(w, field, other)
		count[e]++
		for i, answer := range checkAnswers(t, w, field, other) {
			if answer {
				yes[i]++
			} else if e == api.OK {
				no[i]++
			}
		}
	})
	for i := range yes {
		if yes[i] < 300 || no[i] < 300 {
			t.Error("tried:", i, yes, no)
		}
	}
	for _, e := range list(api.OK, api.ErrWatch, api.ErrMine, api.ErrArg) {
		if count[e] < 300 {
			t.Error("tried:", e, count)
		}
	}
}

// TestAnswersOfAll: each field and each other parish of valid watches.
func TestAnswersOfAll(t *testing.T) {
	rounds(11, 300, func(r *rand.Rand) {
		w := someWatch(r)
		for _, b := range w.Borders {
			for other := -1; other <= 6; other++ {
				checkAnswers(t, w, b.Field, other)
			}
		}
		for field := range 101 {
			checkAnswers(t, w, field, (w.Me+1)%6)
		}
	})
}

// TestHolds: on which side a tally is, by its number, for each two parishes.
func TestHolds(t *testing.T) {
	for me := range 6 {
		w := api.Watch{Me: me, Borders: list(border(99, 0, 1, 2, 3, 4, 5))}
		for other := range 6 {
			if other == me {
				want(t, me, false, api.ErrArg)(bell.Holds(w, 99, other))
				continue
			}
			want(t, list(me, other), me < other, api.OK)(bell.Holds(w, 99, other))
			want(t, list(me, other), 0, api.OK)(bell.Number(w, 99, other))
			for _, no := range list(1, 2, 3, 4, 1000, 99998, 99999) {
				w.Strokes = list(tally(99, other, no))
				want(t, list(me, other, no), (me < other) == (no%2 == 0), api.OK)(bell.Holds(w, 99, other))
				want(t, list(me, other, no), no, api.OK)(bell.Number(w, 99, other))
			}
			w.Strokes = nil
		}
	}
}

// TestClean: tallies that came before the last wants, and after it.
func TestClean(t *testing.T) {
	for _, c := range []struct {
		strokes []api.Stroke
		clean   bool
	}{
		{nil, false},
		{list(tally(7, 0, 1)), false},
		{list(wants(7, 1)), false},
		{list(wants(7, 1), tally(7, 0, 1)), true},
		{list(wants(7, 99999), tally(7, 0, 99999)), true},
		{list(wants(7, 2), tally(7, 0, 1)), false},
		{list(tally(7, 0, 1), wants(7, 1)), false},
		{list(wants(7, 1), tally(7, 0, 1), wants(7, 2)), false},
		{list(wants(7, 1), tally(7, 0, 1), wants(7, 3)), false},
		{list(wants(7, 1), tally(7, 0, 1), wants(7, 3), tally(7, 0, 3)), true},
		{list(wants(7, 1), tally(7, 0, 2)), false},
		{list(wants(7, 1), tally(7, 0, 1), tally(7, 0, 2)), false},
		{list(wants(7, 1), tally(7, 0, 1), tally(7, 0, 2), tally(7, 0, 3)), true},
		{list(tally(7, 0, 1), wants(7, 1), tally(7, 0, 3)), true},
		{list(wants(7, 1), tally(7, 3, 2)), false},
		{list(wants(7, 1), tally(7, 0, 1), asked(7, 0, 1), tally(7, 3, 1)), true},
		{list(wants(7, 1), tally(7, 0, 1), bells(7, 1)), true},
		{list(wants(7, 1), tally(7, 0, 1), bells(7, 1), bells(7, 0)), true},
		{list(wants(7, 1), tally(7, 0, 1), bells(7, 1), wants(7, 2), bells(7, 0)), false},
	} {
		want(t, c, c.clean, api.OK)(bell.Clean(watch(1, c.strokes...), 7, 0))
	}
	// The wants of another field say nothing of this one.
	w := api.Watch{Me: 1, Borders: list(border(7, 0, 1), border(8, 0, 1)), Strokes: list(wants(7, 1), tally(7, 0, 1), wants(8, 1))}
	want(t, w, true, api.OK)(bell.Clean(w, 7, 0))
	want(t, w, false, api.OK)(bell.Clean(w, 8, 0))
}

// TestLesserHoldsNothingClean: a tally that was here from the beginning is not clean.
func TestLesserHoldsNothingClean(t *testing.T) {
	w := watch(0, wants(7, 1))
	want(t, w, true, api.OK)(bell.Holds(w, 7, 1))
	want(t, w, false, api.OK)(bell.Clean(w, 7, 1))
	w = watch(0, wants(7, 1), tally(7, 1, 2))
	want(t, w, true, api.OK)(bell.Clean(w, 7, 1))
}

// crewOf returns watches of some parishes, rising, with fields that some of them share.
func crewOf(r *rand.Rand) []api.Watch {
	f := fields(r, 2)
	var l []api.Watch
	for me := range 6 {
		if r.Intn(3) == 0 {
			continue
		}
		b := list(border(f[0], me, (me+1)%6), api.Border{Field: f[1], Parishes: someParishes(r, me)})
		w := anyWatch(r, me, b[r.Intn(2):])
		if r.Intn(2) == 0 {
			w = opened(w, oneOf(r, w.Borders...).Field)
		}
		l = append(l, w)
	}
	return l
}

// opened returns a watch that opens a field, if it can.
func opened(w api.Watch, field int) api.Watch {
	for _, p := range missing(w, field) {
		if s := tally(field, p, number(w, api.SkTally, field, p)+1); mayFollow(w, s) {
			w.Strokes = append(w.Strokes, s)
		}
	}
	if s := bells(field, 1); mayFollow(w, s) {
		w.Strokes = append(w.Strokes, s)
	}
	if len(w.Strokes) > 120 {
		return api.Watch{Me: w.Me}
	}
	return w
}

func TestWho(t *testing.T) {
	count := map[api.Errno]int{}
	many := map[int]int{}
	rounds(12, 3000, func(r *rand.Rand) {
		l := crewOf(r)
		field := oneOf(r, odd(r), 1, 50)
		if n := len(l); n > 0 {
			field = anyField(r, l[r.Intn(n)])
			i, j := r.Intn(n), r.Intn(n)
			switch r.Intn(12) {
			case 0:
				l[i], l[j] = l[j], l[i]
			case 1:
				l[i] = spoiltWatch(r, l[i])
			case 2:
				l = append(l, l[i])
			}
		}
		open, e := whoDue(l, field)
		count[e]++
		many[len(open)]++
		want(t, []any{l, field}, open, e)(bell.Who(l, field))
	})
	for _, e := range list(api.OK, api.ErrCrew, api.ErrMine) {
		if count[e] < 50 {
			t.Error("tried:", count)
		}
	}
	if many[0] < 300 || many[1] < 300 || many[2] < 50 || many[3] < 5 {
		t.Error("tried:", many)
	}
}

// TestWhoOfSix: watches that were not made with the same borders: all of them can have the field open.
func TestWhoOfSix(t *testing.T) {
	var l []api.Watch
	for me := range 6 {
		want(t, l, none(me > 0, list(0, 1, 2, 3, 4, 5)[:me]), api.OK)(bell.Who(l, 99))
		l = append(l, opened(api.Watch{Me: me, Borders: list(border(99, me, (me+1)%6))}, 99))
	}
	want(t, l, list(0, 1, 2, 3, 4, 5), api.OK)(bell.Who(l, 99))
	want(t, l, []int{}, api.OK)(bell.Who(l, 1))
	want(t, l, []int{}, api.OK)(bell.Who(nil, 1))
	for _, field := range list(-1, 0, 100) {
		want(t, field, []int{}, api.ErrMine)(bell.Who(l, field))
		want(t, field, []int{}, api.ErrMine)(bell.Who(nil, field))
		want(t, field, []int{}, api.ErrCrew)(bell.Who(list(l[1], l[0]), field))
	}
	want(t, "seven", []int{}, api.ErrCrew)(bell.Who(append(l, l[5]), 99))
	want(t, "two of one", []int{}, api.ErrCrew)(bell.Who(list(l[2], l[2]), 99))
	want(t, "falling", []int{}, api.ErrCrew)(bell.Who(list(l[2], l[1]), 99))
	l[4].Bound = 3
	want(t, "a wrong one", []int{}, api.ErrCrew)(bell.Who(l, 99))
}
