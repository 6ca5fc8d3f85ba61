package sack_test

import (
	"math"
	"math/rand"
	"slices"
	"testing"

	"leazing/api"
	"leazing/sack"
)

// P6.1: what is valid, each limit at its edge and beyond it.

// edges calls try with numbers around the limits of a range, and whether they are within it.
func edges(lo, hi int, try func(n int, valid bool)) {
	for _, n := range list(math.MinInt, -hi, lo-1, lo, lo+1, hi-1, hi, hi+1, math.MaxInt) {
		try(n, lo <= n && n <= hi)
	}
}

// verdict returns OK if something is valid, and otherwise an error.
func verdict(valid bool, wrong api.Errno) api.Errno {
	if valid {
		return api.OK
	}
	return wrong
}

func aPass() api.Pass {
	return api.Pass{Source: 500, From: 0, To: 7, Day: 100, Gallons: span(20, 30), Cert: 9, Known: 40, Until: 50}
}

func aHoard() api.Hoard {
	return api.Hoard{Source: 500, Family: 7, Day: 100, Gallons: span(20, 30), Known: 40, Until: 50}
}

// checkPass wants a pass to be valid, or not, alone and among others.
func checkPass(t *testing.T, change func(p *api.Pass), valid bool) {
	t.Helper()
	p := aPass()
	change(&p)
	wantError(t, p, verdict(valid, api.ErrPass), sack.CheckPass(p))
	s := example()
	s.Passes = append(s.Passes, p)
	wantError(t, p, verdict(valid && p.Source > 4, api.ErrSacks), sack.Check(s))
	s.Passes = []api.Pass{p}
	wantError(t, p, verdict(valid, api.ErrSacks), sack.Check(s))
	_, e := sack.Sound(s, 45)
	wantError(t, p, verdict(valid, api.ErrSacks), e)
}

func TestCheckPass(t *testing.T) {
	checkPass(t, func(p *api.Pass) {}, true)
	edges(1, 99999, func(n int, valid bool) { checkPass(t, func(p *api.Pass) { p.Source = n }, valid) })
	edges(1, 99, func(n int, valid bool) {
		checkPass(t, func(p *api.Pass) { p.To = n }, valid)
		checkPass(t, func(p *api.Pass) { p.From, p.Cert = n, 0 }, valid && n != 7 || n == 0)
		checkPass(t, func(p *api.Pass) { p.From, p.To, p.Cert = 7, n, 0 }, valid || n == 0)
		checkPass(t, func(p *api.Pass) { p.From, p.To, p.Cert = n, n, 0 }, false)
		checkPass(t, func(p *api.Pass) { p.From = n }, n == 0)
	})
	checkPass(t, func(p *api.Pass) { p.From, p.To, p.Cert = 99, 1, 0 }, true)
	edges(0, 4166, func(n int, valid bool) { checkPass(t, func(p *api.Pass) { p.Day = n }, valid) })
	checkRanges(func(r api.Range, valid bool) { checkPass(t, func(p *api.Pass) { p.Gallons = r }, valid) })
	edges(0, 99999, func(n int, valid bool) { checkPass(t, func(p *api.Pass) { p.Cert = n }, valid) })
	for _, n := range list(-1, 1, 9, 99999, 100000, math.MinInt, math.MaxInt) {
		checkPass(t, func(p *api.Pass) { p.From, p.Cert = 3, n }, false)
		checkPass(t, func(p *api.Pass) { p.From, p.To, p.Cert = 3, 0, n }, false)
	}
	checkTimes(func(known, until int, valid bool) {
		checkPass(t, func(p *api.Pass) { p.Known, p.Until = known, until }, valid)
	})
}

// checkHoard wants a hoard to be valid, or not, alone and among others.
func checkHoard(t *testing.T, change func(h *api.Hoard), valid bool) {
	t.Helper()
	h := aHoard()
	change(&h)
	wantError(t, h, verdict(valid, api.ErrHoard), sack.CheckHoard(h))
	s := example()
	s.Hoards = append(s.Hoards, h)
	wantError(t, h, verdict(valid && h.Source > 13, api.ErrSacks), sack.Check(s))
	s.Hoards = []api.Hoard{h}
	wantError(t, h, verdict(valid, api.ErrSacks), sack.Check(s))
	_, e := sack.With(api.Sacks{}, h)
	wantError(t, h, verdict(valid, api.ErrHoard), e)
}

func TestCheckHoard(t *testing.T) {
	checkHoard(t, func(h *api.Hoard) {}, true)
	edges(1, 99999, func(n int, valid bool) { checkHoard(t, func(h *api.Hoard) { h.Source = n }, valid) })
	edges(1, 99, func(n int, valid bool) { checkHoard(t, func(h *api.Hoard) { h.Family = n }, valid) })
	edges(0, 4166, func(n int, valid bool) { checkHoard(t, func(h *api.Hoard) { h.Day = n }, valid) })
	checkRanges(func(r api.Range, valid bool) { checkHoard(t, func(h *api.Hoard) { h.Gallons = r }, valid) })
	checkTimes(func(known, until int, valid bool) {
		checkHoard(t, func(h *api.Hoard) { h.Known, h.Until = known, until }, valid)
	})
}

// checkRanges calls check with gallons around the valid ones.
func checkRanges(check func(r api.Range, valid bool)) {
	for _, n := range list(0, 1, 5000, 9999, 10000) {
		edges(n, 10000, func(hi int, valid bool) { check(span(n, hi), valid) })
		edges(0, n, func(lo int, valid bool) { check(span(lo, n), valid) })
	}
	check(span(10001, 10001), false)
	check(span(-1, -1), false)
	check(span(math.MaxInt, math.MinInt), false)
}

// checkTimes calls check with times around the valid ones.
func checkTimes(check func(known, until int, valid bool)) {
	edges(0, 4166, func(known int, valid bool) {
		check(known, 0, valid)
		for _, until := range list(math.MinInt, -1, 1, known-1, known, known+1, 4165, 4166, 4167, math.MaxInt) {
			if until != 0 {
				check(known, until, valid && until > known && until <= 4166)
			}
		}
	})
}

// TestCheckSources: the sources of each kind rise; a pass and a hoard may have one source.
func TestCheckSources(t *testing.T) {
	for _, a := range list(1, 2, 3, 99998, 99999) {
		for _, b := range list(1, 2, 3, 99998, 99999) {
			s := api.Sacks{Passes: []api.Pass{aPass(), aPass()}, Hoards: []api.Hoard{aHoard()}}
			s.Passes[0].Source, s.Passes[1].Source, s.Hoards[0].Source = a, b, a
			wantError(t, s, verdict(a < b, api.ErrSacks), sack.Check(s))
			s = api.Sacks{Passes: []api.Pass{aPass()}, Hoards: []api.Hoard{aHoard(), aHoard()}}
			s.Hoards[0].Source, s.Hoards[1].Source, s.Passes[0].Source = a, b, b
			wantError(t, s, verdict(a < b, api.ErrSacks), sack.Check(s))
		}
	}
	for i := range 59 {
		s := longest(60)
		s.Passes[i+1].Source = s.Passes[i].Source
		wantError(t, i, api.ErrSacks, sack.Check(s))
		s = longest(60)
		s.Hoards[i+1].Source = s.Hoards[i].Source
		wantError(t, i, api.ErrSacks, sack.Check(s))
	}
}

func TestCheckLong(t *testing.T) {
	for n := 58; n <= 62; n++ {
		s := longest(n)
		wantError(t, n, verdict(n <= 60, api.ErrSacks), sack.Check(s))
		wantError(t, n, verdict(n <= 60, api.ErrSacks), sack.Check(api.Sacks{Passes: s.Passes}))
		wantError(t, n, verdict(n <= 60, api.ErrSacks), sack.Check(api.Sacks{Hoards: s.Hoards}))
	}
	wantError(t, "many", api.ErrSacks, sack.Check(api.Sacks{Hoards: make([]api.Hoard, 1000000)}))
	wantError(t, "nothing", api.OK, sack.Check(api.Sacks{}))
}

func TestWith(t *testing.T) {
	s := example()
	for source := range 20 {
		h := aHoard()
		h.Source = source
		wanted, e := api.Sacks{}, api.ErrHoard
		if source > 0 && (source < 11 || source > 13) {
			wanted, e = api.Sacks{Passes: s.Passes, Hoards: slices.Concat(s.Hoards, []api.Hoard{h})}, api.OK
			slices.SortFunc(wanted.Hoards, func(a, b api.Hoard) int { return a.Source - b.Source })
		}
		wantSacks(t, h, wanted, e)(sack.With(s, h))
	}
	for n := 58; n <= 60; n++ {
		s, first := longest(n), aHoard()
		wanted, e := api.Sacks{}, api.ErrLong
		if n < 60 {
			wanted, e = api.Sacks{Passes: s.Passes, Hoards: slices.Concat([]api.Hoard{first}, s.Hoards)}, api.OK
		}
		wantSacks(t, n, wanted, e)(sack.With(s, first))
		for _, h := range s.Hoards {
			wantSacks(t, "ErrHoard before ErrLong", api.Sacks{}, api.ErrHoard)(sack.With(s, h))
			h.Known = 9
			wantSacks(t, "a source that is there", api.Sacks{}, api.ErrHoard)(sack.With(s, h))
		}
	}
	wantSacks(t, "what does not count has its source too", api.Sacks{}, api.ErrHoard)(sack.With(api.Sacks{Hoards: []api.Hoard{aHoard()}}, aHoard()))
}

func TestWithout(t *testing.T) {
	s := example()
	s.Passes = append(s.Passes, api.Pass{Source: 5, To: 1, Cert: 77, Known: 4165, Until: 4166}, api.Pass{Source: 6, To: 1, Cert: 78}, api.Pass{Source: 7, To: 1, Cert: 77})
	without := func(keep ...int) api.Sacks {
		less := api.Sacks{Hoards: s.Hoards}
		for _, i := range keep {
			less.Passes = append(less.Passes, s.Passes[i])
		}
		return less
	}
	wantSacks(t, "77", without(1, 2, 3, 5), api.OK)(sack.Without(s, 77))
	wantSacks(t, "78", without(0, 1, 2, 3, 4, 6), api.OK)(sack.Without(s, 78))
	wantSacks(t, "none", api.Sacks{}, api.ErrNone)(sack.Without(s, 76))
	edges(1, 99999, func(n int, valid bool) {
		e := api.ErrArg
		if valid {
			e = api.ErrNone
		}
		wantSacks(t, n, api.Sacks{}, e)(sack.Without(s, n))
	})
	wantSacks(t, "all", api.Sacks{}, api.OK)(sack.Without(api.Sacks{Passes: []api.Pass{aPass()}}, 9))
}

func TestDates(t *testing.T) {
	s := api.Sacks{Passes: []api.Pass{aPass(), aPass(), aPass()}, Hoards: []api.Hoard{aHoard(), aHoard(), aHoard()}}
	for i := range 3 {
		s.Passes[i].Source, s.Hoards[i].Source = i+1, i+1
	}
	wantList(t, s, list(40, 50), api.OK)(sack.Dates(s))
	s.Passes[0].Known, s.Passes[0].Until = 4165, 4166
	s.Passes[1].Until = 0
	s.Hoards[0].Known = 0
	s.Hoards[1].Known, s.Hoards[1].Until = 30, 0
	s.Hoards[2].Until = 41
	wantList(t, s, list(0, 30, 40, 41, 50, 4165, 4166), api.OK)(sack.Dates(s))
	wantList(t, "nothing", nil, api.OK)(sack.Dates(api.Sacks{}))
	wantList(t, "no end", list(7), api.OK)(sack.Dates(api.Sacks{Passes: []api.Pass{{Source: 1, To: 1, Known: 7}}}))
	wantList(t, "no end", list(8), api.OK)(sack.Dates(api.Sacks{Hoards: []api.Hoard{{Source: 1, Family: 1, Known: 8}}}))
	wantList(t, "the first end", list(0, 1), api.OK)(sack.Dates(api.Sacks{Hoards: []api.Hoard{{Source: 1, Family: 1, Until: 1}}}))
	s.Hoards[2].Until = 40
	wantList(t, s, nil, api.ErrSacks)(sack.Dates(s))
}

// TestAllDates: on each of the dates something may count, or not, that did otherwise the day before; on no other day.
func TestAllDates(t *testing.T) {
	sacks(100, 200, small, func(r *rand.Rand, s api.Sacks, known int) {
		dates := must[[]int](t, s)(sack.Dates(s))
		var wanted []int
		for day := range 12 {
			turns := func(known, until int) bool { return known == day || until == day && until > 0 }
			if slices.ContainsFunc(s.Passes, func(p api.Pass) bool { return turns(p.Known, p.Until) }) || slices.ContainsFunc(s.Hoards, func(h api.Hoard) bool { return turns(h.Known, h.Until) }) {
				wanted = append(wanted, day)
			}
			if !slices.Contains(dates, day) && day > 0 && !same(knownOf(s, day), knownOf(s, day-1)) {
				t.Fatalf("%+v: something turns on %d", s, day)
			}
		}
		wantList(t, s, wanted, api.OK)(dates, api.OK)
	})
}

// TestCounts: times that begin or end on the day itself.
func TestCounts(t *testing.T) {
	for known := range 6 {
		for until := range 6 {
			p, h := aPass(), aHoard()
			p.Known, p.Until, h.Known, h.Until, h.Gallons = known, until, known, until, span(25, 26)
			always, other := aPass(), aHoard()
			always.Known, always.Until = 0, 0
			other.Known, other.Until = 0, 0
			for day := range 7 {
				if until != 0 && until <= known {
					continue
				}
				counts := day >= known && (until == 0 || day < until)
				pass, hoard, e := span(0, 0), span(20, 30), api.ErrTold
				if counts {
					pass, hoard, e = span(20, 30), span(25, 26), api.OK
				}
				want(t, p, pass, api.OK)(sack.Have(api.Sacks{Passes: []api.Pass{p}}, spot(7, 100), day))
				want(t, p, pass, e)(sack.Went(api.Sacks{Passes: []api.Pass{p}}, 500, day))
				want(t, h, hoard, api.OK)(sack.Have(api.Sacks{Passes: []api.Pass{always}, Hoards: []api.Hoard{h}}, spot(7, 100), day))
				want(t, p, counts, api.OK)(sack.Sound(api.Sacks{Passes: []api.Pass{p}, Hoards: []api.Hoard{other}}, day))
			}
		}
	}
}
