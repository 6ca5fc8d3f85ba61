package bell_test

import (
	"math"
	"math/bits"
	"math/rand"
	"slices"
	"testing"

	"leazing/api"
	"leazing/bell"
)

// P9.1: what is valid, each limit at its edge and beyond it.

// edges calls try with numbers around the limits of a range, and whether they are within it.
func edges(lo, hi int, try func(n int, valid bool)) {
	for _, n := range list(math.MinInt, -hi-1, lo-1, lo, lo+1, hi-1, hi, hi+1, math.MaxInt) {
		try(n, lo <= n && n <= hi)
	}
}

func TestCheckBorder(t *testing.T) {
	edges(1, 99, func(n int, valid bool) {
		wantError(t, n, verdict(valid, api.ErrBorder), bell.CheckBorder(api.Border{Field: n, Parishes: 3}))
	})
	for n := -70; n <= 200; n++ {
		valid := n >= 0 && n < 64 && bits.OnesCount(uint(n)) >= 2
		wantError(t, n, verdict(valid, api.ErrBorder), bell.CheckBorder(api.Border{Field: 99, Parishes: n}))
	}
	for _, n := range list(math.MinInt, math.MinInt+3, math.MaxInt, 1<<32+3) {
		wantError(t, n, api.ErrBorder, bell.CheckBorder(api.Border{Field: 99, Parishes: n}))
	}
	wantError(t, "nothing", api.ErrBorder, bell.CheckBorder(api.Border{}))
}

// checkWatch wants a watch to be valid, or not, by all functions that take one; most of them are asked what has another error, if it is.
func checkWatch(t *testing.T, w api.Watch, valid bool) {
	t.Helper()
	due := func(e api.Errno) api.Errno { return none(valid, e) + none(!valid, api.ErrWatch) }
	wantError(t, w, due(api.OK), bell.Check(w))
	want(t, w, 0, due(api.ErrMine))(bell.Number(w, 0, 0))
	want(t, w, false, due(api.ErrMine))(bell.Holds(w, 0, 0))
	want(t, w, false, due(api.ErrMine))(bell.Clean(w, 0, 0))
	want(t, w, false, due(api.ErrMine))(bell.IsOpen(w, 0))
	want(t, w, false, due(api.ErrMine))(bell.Wanted(w, 0))
	want(t, w, []int{}, due(api.ErrMine))(bell.Asked(w, 100))
	want(t, w, []int{}, due(api.ErrMine))(bell.Missing(w, 100))
	want(t, w, api.Watch{}, due(api.ErrMine))(bell.Want(w, 100))
	want(t, w, api.Watch{}, due(api.ErrMine))(bell.Ring(w, 100))
	want(t, w, api.Watch{}, due(api.ErrMine))(bell.Shut(w, 100))
	want(t, w, api.Peal{}, due(api.ErrArg))(bell.Tell(w, w.Me))
	want(t, w, api.Watch{}, due(api.ErrPeal))(bell.Hear(w, api.Peal{}))
	want(t, w, []int{}, none(valid, api.ErrMine)+none(!valid, api.ErrCrew))(bell.Who(list(w), 0))
	for _, change := range list(bell.Bind, bell.Recopy, bell.Serve, func(w api.Watch) (api.Watch, api.Errno) { return bell.Tear(w, 3) }) {
		if _, e := change(w); e != api.ErrLong || !valid { // there may be no room for what Serve writes
			wantError(t, w, due(api.OK), e)
		}
	}
}

// checkBorders wants a parish to have such borders, or not.
func checkBorders(t *testing.T, me int, l []api.Border, valid bool) {
	t.Helper()
	w := api.Watch{Me: me, Borders: l}
	checkWatch(t, w, valid && between(me, 0, 5))
	due := none(!valid, api.ErrBorder)
	if !between(me, 0, 5) {
		due = api.ErrArg
	}
	want(t, w, none(due == api.OK, w), due)(bell.New(me, l))
}

func TestNew(t *testing.T) {
	edges(0, 5, func(n int, valid bool) {
		checkBorders(t, n, nil, true)
		checkBorders(t, n, list(border(7, 0, 1, 2, 3, 4, 5)), true)
		checkBorders(t, n, list(api.Border{}), false)
	})
	for me := range 6 {
		for parishes := range 64 {
			valid := bits.OnesCount(uint(parishes)) >= 2 && parishes>>me%2 == 1
			checkBorders(t, me, list(api.Border{Field: 1, Parishes: parishes}), valid)
			checkBorders(t, me, list(border(1, 0, 1, 2, 3, 4, 5), api.Border{Field: 99, Parishes: parishes}), valid)
		}
	}
	edges(1, 99, func(n int, valid bool) { checkBorders(t, 0, list(api.Border{Field: n, Parishes: 3}), valid) })
	edges(7, 99, func(n int, valid bool) {
		checkBorders(t, 0, list(border(6, 0, 1), api.Border{Field: n, Parishes: 3}), valid)
	})
	edges(1, 93, func(n int, valid bool) {
		checkBorders(t, 0, list(api.Border{Field: n, Parishes: 3}, border(94, 0, 1)), valid)
	})
	checkBorders(t, 0, list(border(1, 0, 1), border(1, 0, 1)), false)
	checkBorders(t, 0, list(border(2, 0, 1), border(1, 0, 1)), false)
	var l []api.Border
	for n := range 8 {
		checkBorders(t, 0, l, n <= 4)
		l = append(l, border(n+1, 0, n%5+1))
	}
}

func TestCheckBound(t *testing.T) {
	for _, n := range list(0, 1, 2, 119, 120) {
		edges(0, n, func(bound int, valid bool) {
			w := filled(n)
			w.Bound = bound
			checkWatch(t, w, valid)
		})
	}
	for n := 115; n < 130; n++ {
		checkWatch(t, filled(n), n <= 120)
	}
}

// checkNext wants that a stroke may be written at the end of a book of the parish 1, or not; also if others follow, or stand between.
func checkNext(t *testing.T, before []api.Stroke, s api.Stroke, valid bool) {
	t.Helper()
	w := watch(1, before...)
	checkWatch(t, w, true)
	checkWatch(t, with(w, s), valid)
	if s.Kind != api.SkAsked || s.Other != 3 {
		checkWatch(t, with(w, asked(7, 3, 9), s), valid)
		checkWatch(t, with(w, s, asked(7, 3, 9)), valid)
	}
}

func TestCheckStroke(t *testing.T) {
	open := list(tally(7, 0, 1), bells(7, 1))
	edges(1, 4, func(kind int, _ bool) {
		checkNext(t, nil, api.Stroke{Kind: kind, Field: 7, No: 1}, kind >= 1 && kind <= 3) // a bell without all tallies
		checkNext(t, open[:1], api.Stroke{Kind: kind, Field: 7, No: 1}, kind >= 2 && kind <= 4)
	})
	for field := -1; field <= 101; field++ {
		for _, s := range list(tally(field, 0, 3), wants(field, 3), asked(field, 0, 3), bells(field, 1)) {
			checkNext(t, open[:1], s, field == 7)
		}
	}
	for _, other := range list(math.MinInt, -1, 0, 1, 2, 3, 4, 5, 6, 63, 64, math.MaxInt) {
		checkNext(t, nil, tally(7, other, 1), other == 0 || other == 3)
		checkNext(t, nil, asked(7, other, 1), other == 0 || other == 3)
		checkNext(t, nil, api.Stroke{Kind: 2, Field: 7, Other: other, No: 1}, other == 0)
		checkNext(t, open[:1], api.Stroke{Kind: 4, Field: 7, Other: other, No: 1}, other == 0)
		checkNext(t, open, api.Stroke{Kind: 4, Field: 7, Other: other}, other == 0)
	}
	edges(1, 99999, func(no int, valid bool) {
		checkNext(t, nil, tally(7, 0, no), valid)
		checkNext(t, nil, tally(7, 3, no), valid)
		checkNext(t, nil, wants(7, no), valid)
		checkNext(t, nil, asked(7, 0, no), valid)
		checkNext(t, nil, asked(7, 3, no), valid)
	})
	edges(0, 1, func(no int, _ bool) {
		checkNext(t, nil, bells(7, no), false)
		checkNext(t, open[:1], bells(7, no), no == 1)
		checkNext(t, open, bells(7, no), no == 0)
		checkNext(t, append(open, bells(7, 0)), bells(7, no), no == 1)
	})
}

// TestCheckNumbers: a number that is not greater than the one that it changes.
func TestCheckNumbers(t *testing.T) {
	for _, s := range list(tally(7, 0, 5), wants(7, 5), asked(7, 0, 5), tally(7, 3, 6), asked(7, 3, 5)) {
		before := list(s)
		for no := s.No - 3; no <= s.No+3; no++ {
			next := s
			next.No = no
			checkNext(t, before, next, no > s.No)
		}
		// Other kinds, and other parishes, have numbers of their own.
		for _, other := range list(tally(7, 0, 1), wants(7, 1), asked(7, 0, 1), tally(7, 3, 1)) {
			free := other.Kind != s.Kind || other.Other != s.Other
			checkNext(t, before, other, free)
		}
	}
	two := api.Watch{Me: 1, Borders: list(border(7, 0, 1), border(8, 0, 1)), Strokes: list(tally(7, 0, 5), tally(8, 0, 1), wants(8, 9), wants(7, 1), asked(7, 0, 9), asked(8, 0, 9), bells(7, 1))}
	checkWatch(t, two, true)
	checkWatch(t, with(two, tally(8, 0, 3), bells(8, 1)), true)
	checkWatch(t, with(two, bells(8, 1), bells(7, 0)), true)
	checkWatch(t, with(two, bells(8, 0)), false)
	checkWatch(t, with(two, tally(8, 0, 1)), false)
	checkWatch(t, with(two, tally(7, 0, 7)), false)
}

// TestCheckBells: bells that are rung without all tallies, or while it is open; that are shut twice; and tallies of a field that is open.
func TestCheckBells(t *testing.T) {
	all := list(tally(7, 0, 1))
	open := append(all, bells(7, 1))
	for _, c := range []struct {
		before []api.Stroke
		s      api.Stroke
		valid  bool
	}{
		{nil, bells(7, 1), false},
		{nil, bells(7, 0), false},
		{all, bells(7, 1), true},
		{all, bells(7, 0), false},
		{list(tally(7, 0, 2)), bells(7, 1), false},
		{list(tally(7, 0, 1), tally(7, 0, 2)), bells(7, 1), false},
		{list(tally(7, 0, 1), tally(7, 3, 1)), bells(7, 1), false},
		{list(tally(7, 0, 1), tally(7, 3, 2)), bells(7, 1), true},
		{list(tally(7, 3, 2)), bells(7, 1), false},
		{open, bells(7, 1), false},
		{open, bells(7, 0), true},
		{open, tally(7, 0, 2), false},
		{open, tally(7, 0, 3), false},
		{open, tally(7, 3, 2), false},
		{open, wants(7, 1), true},
		{open, asked(7, 0, 1), true},
		{append(open, bells(7, 0)), bells(7, 0), false},
		{append(open, bells(7, 0)), bells(7, 1), true},
		{append(open, bells(7, 0)), tally(7, 0, 2), true},
		{append(open, bells(7, 0), tally(7, 0, 2)), bells(7, 1), false},
		{append(open, bells(7, 0), bells(7, 1)), tally(7, 0, 2), false},
	} {
		checkNext(t, c.before, c.s, c.valid)
	}
}

// TestAnyWatches: watches one or two parts of which are other ones.
func TestAnyWatches(t *testing.T) {
	count := map[bool]int{}
	rounds(2, 6000, func(r *rand.Rand) {
		w := someWatch(r)
		checkWatch(t, w, true)
		w = spoiltWatch(r, w)
		count[isWatch(w)]++
		checkWatch(t, w, isWatch(w))
	})
	if count[true] < 1000 || count[false] < 1000 {
		t.Error("tried:", count)
	}
}

// checkPeal wants a peal to the parish 1 to be valid, or not, after a change.
func checkPeal(t *testing.T, valid bool, change func(p *api.Peal)) {
	t.Helper()
	p := api.Peal{From: 0, To: 1, Told: list(told(7, 5, 6), told(50, 7, 8))}
	change(&p)
	wantError(t, p, verdict(valid, api.ErrPeal), bell.CheckPeal(p))
	_, e := bell.Hear(watch(1), p)
	wantError(t, p, verdict(valid && p.To == 1, api.ErrPeal), e)
	_, e = bell.Hear(api.Watch{Me: 3}, p)
	wantError(t, p, verdict(valid && p.To == 3, api.ErrPeal), e)
}

func TestCheckPeal(t *testing.T) {
	checkPeal(t, true, func(p *api.Peal) {})
	checkPeal(t, true, func(p *api.Peal) { p.Told = nil })
	wantError(t, "nothing", api.ErrPeal, bell.CheckPeal(api.Peal{}))
	for from := -2; from < 9; from++ {
		for to := -2; to < 9; to++ {
			checkPeal(t, between(from, 0, 5) && between(to, 0, 5) && from != to, func(p *api.Peal) { p.From, p.To = from, to })
		}
	}
	for i := range 2 {
		edges(0, 99999, func(n int, valid bool) {
			checkPeal(t, valid, func(p *api.Peal) { p.Told[i].No = n })
			checkPeal(t, valid, func(p *api.Peal) { p.Told[i].Wants = n })
		})
	}
	edges(1, 49, func(n int, valid bool) { checkPeal(t, valid, func(p *api.Peal) { p.Told[0].Field = n }) })
	edges(8, 99, func(n int, valid bool) { checkPeal(t, valid, func(p *api.Peal) { p.Told[1].Field = n }) })
	for n := range 8 {
		checkPeal(t, n <= 4, func(p *api.Peal) {
			p.Told = nil
			for i := range n {
				p.Told = append(p.Told, told(i+1, 0, 0))
			}
		})
	}
	checkPeal(t, false, func(p *api.Peal) { p.Told[1] = p.Told[0] })
	checkPeal(t, false, func(p *api.Peal) { slices.Reverse(p.Told) })
}

// checkStrokes wants a list of strokes to have a text, or not.
func checkStrokes(t *testing.T, l []api.Stroke, valid bool) {
	t.Helper()
	want(t, l, none(valid, textOf(l)), verdict(valid, api.ErrStroke))(bell.Print(l))
	if valid {
		wantParsed(t, textOf(l), l)
	}
}

// TestPrintOfStrokes: each stroke by itself, whatever book it could be in.
func TestPrintOfStrokes(t *testing.T) {
	edges(1, 4, func(kind int, valid bool) { checkStrokes(t, list(api.Stroke{Kind: kind, Field: 7, No: 1}), valid) })
	for kind := 1; kind <= 4; kind++ {
		edges(1, 99, func(n int, valid bool) { checkStrokes(t, list(api.Stroke{Kind: kind, Field: n, No: 1}), valid) })
		edges(0, none(kind%2 == 1, 5), func(n int, valid bool) {
			checkStrokes(t, list(api.Stroke{Kind: kind, Field: 7, Other: n, No: 1}), valid)
		})
		if kind == 4 {
			edges(0, 1, func(n int, valid bool) { checkStrokes(t, list(bells(7, n)), valid) })
		} else {
			edges(1, 99999, func(n int, valid bool) { checkStrokes(t, list(api.Stroke{Kind: kind, Field: 7, No: n}), valid) })
		}
	}
	for n := 115; n < 130; n++ {
		checkStrokes(t, slices.Repeat(list(bells(7, 1)), n), n <= 120)
		checkStrokes(t, slices.Repeat(list(tally(7, 1, 5), tally(7, 1, 5)), n/2), n/2 <= 60)
	}
	checkStrokes(t, nil, true)
	right := slices.Repeat(list(wants(7, 1)), 100)
	for i := range right {
		wrong := slices.Clone(right)
		wrong[i].No = 0
		checkStrokes(t, wrong, false)
	}
	rounds(3, 3000, func(r *rand.Rand) {
		l := anyStrokes(r)
		checkStrokes(t, l, true)
		for i := range l {
			if r.Intn(20) == 0 {
				l[i] = spoiltStroke(r, l[i])
			}
		}
		checkStrokes(t, l, areStrokes(l))
	})
}
