package sack_test

import (
	"math"
	"math/rand"
	"slices"
	"testing"

	"leazing/api"
	"leazing/sack"
)

// P6.1 and P6.5: hoards that cannot all be true, also lists that the package would not return.

// withHoards returns the sacks that have only the hoards with some sources.
func withHoards(s api.Sacks, sources []int) api.Sacks {
	some := api.Sacks{Passes: s.Passes}
	for _, h := range s.Hoards {
		if slices.Contains(sources, h.Source) {
			some.Hoards = append(some.Hoards, h)
		}
	}
	return some
}

// hoardsOf returns the sources of all hoards.
func hoardsOf(s api.Sacks) []int {
	var all []int
	for _, h := range s.Hoards {
		all = append(all, h.Source)
	}
	return all
}

func without(l []int, i int) []int { return slices.Delete(slices.Clone(l), i, i+1) }

// isClash tells whether hoards cannot all be true, while without any one of them they could, if all passes and hoards count.
func isClash(s api.Sacks, by []int, sound func(api.Sacks) bool) bool {
	for i, source := range by {
		if i > 0 && source <= by[i-1] || !slices.Contains(hoardsOf(s), source) {
			return false
		}
	}
	if sound(withHoards(s, by)) {
		return false
	}
	for i := range by {
		if !sound(withHoards(s, without(by, i))) {
			return false
		}
	}
	return true
}

// clashOf returns what Clash has to return of sacks that are not sound, if all passes and hoards count.
func clashOf(s api.Sacks, sound func(api.Sacks) bool) []int {
	by := hoardsOf(s)
	for i := len(by) - 1; i >= 0; i-- {
		if less := without(by, i); !sound(withHoards(s, less)) {
			by = less
		}
	}
	return by
}

// hasFlow tells whether sacks are sound, by all numbers.
func hasFlow(s api.Sacks) bool { return len(flowsOf(s)) > 0 }

// isSound tells it by the package.
func isSound(t *testing.T) func(api.Sacks) bool {
	return func(s api.Sacks) bool {
		for i := range s.Passes {
			if s.Passes[i].Known > 0 || s.Passes[i].Until > 0 {
				t.Fatal("not all counts")
			}
		}
		return must[bool](t, s)(sack.Sound(s, 0))
	}
}

// always returns sacks of which all passes and hoards count on all days.
func always(s api.Sacks) api.Sacks {
	s = api.Sacks{Passes: slices.Clone(s.Passes), Hoards: slices.Clone(s.Hoards)}
	for i := range s.Passes {
		s.Passes[i].Known, s.Passes[i].Until = 0, 0
	}
	for i := range s.Hoards {
		s.Hoards[i].Known, s.Hoards[i].Until = 0, 0
	}
	return s
}

// checkClash wants a list to be accepted exactly if it is one of hoards that contradict each other.
func checkClash(t *testing.T, s api.Sacks, known int, by []int, sound func(api.Sacks) bool) bool {
	t.Helper()
	is := isClash(always(knownOf(s, known)), by, sound)
	if e := sack.CheckClash(s, known, by); e != verdict(is, api.ErrFit) {
		t.Fatalf("%+v as known on %d: error %d for the clash %v; it is one: %t", s, known, e, by, is)
	}
	return is
}

// TestAllClashes: P6.5: all lists of hoards of small sacks, by all their true gallons.
func TestAllClashes(t *testing.T) {
	accepted, refused, sounds, passes, least := 0, 0, 0, 0, 0
	check := func(r *rand.Rand, s api.Sacks, known int) {
		k := always(knownOf(s, known))
		if hasFlow(k) {
			sounds++
			wantList(t, s, nil, api.ErrFit)(sack.Clash(s, known))
		} else {
			wanted := clashOf(k, hasFlow)
			wantList(t, s, wanted, api.OK)(sack.Clash(s, known))
			if len(wanted) == 0 {
				passes++
			}
		}
		all, clashes := hoardsOf(s), 0
		for set := range 1 << len(all) {
			var by []int
			for i, source := range all {
				if set>>i&1 == 1 {
					by = append(by, source)
				}
			}
			if checkClash(t, s, known, by, hasFlow) {
				clashes++
			} else {
				refused++
			}
		}
		accepted += clashes
		if clashes > 1 {
			least++
		}
		if hasFlow(k) != (clashes == 0) {
			t.Fatalf("%+v as known on %d: %d clashes", s, known, clashes)
		}
	}
	sacks(40, 3000, tiny, check)
	sacks(41, 1000, size{4, 4, 2, 3, 4, 2}, check)
	if accepted < 500 || refused < 5000 || sounds < 500 || passes < 100 || least < 50 {
		t.Error("accepted:", accepted, "refused:", refused, "sound:", sounds, "passes alone:", passes, "several:", least)
	}
}

// nearClashes calls try with lists that differ a little from one.
func nearClashes(r *rand.Rand, s api.Sacks, by []int, try func(near []int)) {
	try(by)
	try(nil)
	try(hoardsOf(s))
	others := append(hoardsOf(s), 0, -1, 100000, math.MinInt, math.MaxInt)
	for range 3 {
		i, n := r.Intn(len(by)+1), others[r.Intn(len(others))]
		try(slices.Insert(slices.Clone(by), i, n))
		try(rising(append(slices.Clone(by), n)))
		try(by[:i])
		if i < len(by) {
			try(without(by, i))
			try(slices.Insert(slices.Clone(by), i, by[i]))
			changed := slices.Clone(by)
			changed[i] = n
			try(changed)
			try(rising(slices.Clone(changed)))
		}
	}
	turned := slices.Clone(by)
	slices.Reverse(turned)
	try(turned)
}

// TestClashes: P6.5, in sacks up to the limits.
func TestClashes(t *testing.T) {
	for i, most := range []size{{12, 10, 4, 6, 50, 20}, dense, great} {
		accepted, refused, sounds, several := 0, 0, 0, 0
		sacks(int64(42+i), 200, most, func(r *rand.Rand, s api.Sacks, known int) {
			k := always(knownOf(s, known))
			sound := isSound(t)
			by, e := sack.Clash(s, known)
			if sound(k) {
				sounds++
				wantList(t, s, nil, api.ErrFit)(by, e)
			} else {
				wantList(t, s, clashOf(k, sound), api.OK)(by, e)
			}
			if len(by) > 1 {
				several++
			}
			nearClashes(r, s, by, func(near []int) {
				if checkClash(t, s, known, near, sound) {
					accepted++
				} else {
					refused++
				}
			})
		})
		if accepted < 100 || refused < 1000 || sounds < 20 || several < 3 {
			t.Error(most, "accepted:", accepted, "refused:", refused, "sound:", sounds, "several:", several)
		}
	}
}

// TestLastClash: of hoards that say the same the one with the least source stays.
func TestLastClash(t *testing.T) {
	s := api.Sacks{Passes: []api.Pass{{Source: 1, To: 3, Day: 1, Gallons: span(5, 9)}}}
	for i := range 60 {
		s.Hoards = append(s.Hoards, api.Hoard{Source: 2*i + 1, Family: 3, Day: 1 + i%7, Gallons: span(10, 10000)})
	}
	wantList(t, s, list(1), api.OK)(sack.Clash(s, 0))
	for i := range 121 {
		wantError(t, i, verdict(i%2 == 1 && i < 120, api.ErrFit), sack.CheckClash(s, 0, list(i)))
	}
	wantError(t, "none", api.ErrFit, sack.CheckClash(s, 0, nil))
	wantError(t, "all", api.ErrFit, sack.CheckClash(s, 0, hoardsOf(s)))
	for i := range s.Hoards {
		s.Hoards[i].Gallons = span(0, 10000)
	}
	s.Hoards[58].Gallons, s.Hoards[59].Gallons = span(0, 6), span(7, 7)
	wantList(t, s, list(117, 119), api.OK)(sack.Clash(s, 0))
	s.Passes[0].Gallons = span(10000, 10000)
	wantList(t, s, list(117), api.OK)(sack.Clash(s, 0))
	s.Passes = append(s.Passes, api.Pass{Source: 2, From: 4, Gallons: span(1, 1)})
	wantList(t, "the passes alone", nil, api.OK)(sack.Clash(s, 0))
	wantError(t, "the passes alone", api.OK, sack.CheckClash(s, 0, []int{}))
	wantError(t, "the passes alone", api.ErrFit, sack.CheckClash(s, 0, list(117)))
}
