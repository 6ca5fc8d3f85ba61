package sack_test

import (
	"math"
	"math/rand"
	"slices"
	"testing"

	"leazing/api"
	"leazing/sack"
)

// P6.1 and P6.3: fences, also those that the package would not return.

// flowing is what moves somewhere: by a pass, or what a family has; a Family 0 is no spot.
type flowing struct {
	from, to  api.Spot
	gallons   api.Range
	unbounded bool
}

// flowings returns all that moves among families on the days, if all passes and hoards count.
func flowings(s api.Sacks, families []int) []flowing {
	var all []flowing
	for _, p := range s.Passes {
		all = append(all, flowing{spot(p.From, p.Day), spot(p.To, p.Day), p.Gallons, false})
	}
	days := daysOf(s)
	for _, f := range families {
		for i, day := range days {
			has := flowing{from: spot(f, day), unbounded: true}
			if i+1 < len(days) {
				has.to = spot(f, days[i+1])
			}
			has.gallons, has.unbounded = seen(s, has.from)
			all = append(all, has)
		}
	}
	return all
}

// seen returns the bounds of what a family has by the hoards of a spot; true, if there is no bound above.
func seen(s api.Sacks, at api.Spot) (api.Range, bool) {
	bounds, unbounded := span(0, math.MaxInt), true
	for _, h := range s.Hoards {
		if h.Family == at.Family && h.Day == at.Day {
			bounds, unbounded = span(max(bounds.Lo, h.Gallons.Lo), min(bounds.Hi, h.Gallons.Hi)), false
		}
	}
	return bounds, unbounded
}

// shows tells whether a fence shows that sacks are not sound, if all passes and hoards count.
func shows(s api.Sacks, f api.Fence) bool {
	var families []int
	for i, at := range f.Spots {
		rises := i == 0 || at.Family > f.Spots[i-1].Family || at.Family == f.Spots[i-1].Family && at.Day > f.Spots[i-1].Day
		if !rises || at.Family < 1 || at.Family > 99 || !slices.Contains(daysOf(s), at.Day) {
			return false
		}
		families = append(families, at.Family)
	}
	if len(f.Spots) == 1 {
		bounds, _ := seen(s, f.Spots[0])
		if bounds.Lo > bounds.Hi {
			return true
		}
	}
	more, less := 0, 0
	for _, x := range flowings(s, rising(families)) {
		begins, ends := slices.Contains(f.Spots, x.from), slices.Contains(f.Spots, x.to)
		if begins == ends {
			continue
		}
		if begins != f.Over { // leaves, and is too much; or comes, if the fence is over
			more += x.gallons.Lo
		} else if x.unbounded {
			return false
		} else {
			less += x.gallons.Hi
		}
	}
	return len(f.Spots) > 0 && more > less
}

// checkFence wants a fence to be accepted exactly if it shows something.
func checkFence(t *testing.T, s api.Sacks, known int, f api.Fence) bool {
	t.Helper()
	is := shows(knownOf(s, known), f)
	if e := sack.CheckFence(s, known, f); e != verdict(is, api.ErrFence) {
		t.Fatalf("%+v as known on %d: error %d for %+v; it shows something: %t", s, known, e, f, is)
	}
	return is
}

// checkOwnFence wants a fence of the package's own, or none if the sacks are sound.
func checkOwnFence(t *testing.T, s api.Sacks, known int, sound bool) api.Fence {
	t.Helper()
	f, e := sack.Fence(s, known)
	if e != verdict(!sound, api.ErrFit) || sound && (f.Over || len(f.Spots) > 0) {
		t.Fatalf("%+v as known on %d: %+v, error %d; sound: %t", s, known, f, e, sound)
	}
	if !sound && !checkFence(t, s, known, f) {
		t.Fatalf("%+v as known on %d: %+v shows nothing", s, known, f)
	}
	return f
}

// TestAllFences: P6.3: all sets of spots of small sacks; none shows anything if there are true gallons, and one does if there are none.
func TestAllFences(t *testing.T) {
	accepted, refused, sounds := 0, 0, 0
	check := func(r *rand.Rand, s api.Sacks, known int) {
		sound, shown := truthsOf(s, known).sound(), 0
		var spots []api.Spot
		for _, f := range rising(append(named(s), 50)) {
			for _, day := range daysOf(knownOf(s, known)) {
				spots = append(spots, spot(f, day))
			}
		}
		if len(spots) > 9 {
			return
		}
		for set := range 1 << len(spots) {
			var chosen []api.Spot
			for i, at := range spots {
				if set>>i&1 == 1 {
					chosen = append(chosen, at)
				}
			}
			for _, over := range []bool{false, true} {
				if checkFence(t, s, known, fence(over, chosen...)) {
					shown++
				}
			}
		}
		if sound != (shown == 0) {
			t.Fatalf("%+v as known on %d: sound: %t, and %d fences", s, known, sound, shown)
		}
		checkOwnFence(t, s, known, sound)
		accepted, refused = accepted+shown, refused+2<<len(spots)-shown
		if sound {
			sounds++
		}
	}
	sacks(30, 1000, tiny, check)
	sacks(31, 300, size{3, 3, 2, 3, 4, 2}, check)
	if accepted < 2000 || refused < 20000 || sounds < 200 {
		t.Error("accepted:", accepted, "refused:", refused, "sound:", sounds)
	}
}

// nearFences calls try with fences that differ a little from one.
func nearFences(r *rand.Rand, s api.Sacks, f api.Fence, try func(near api.Fence)) {
	try(f)
	try(fence(!f.Over, f.Spots...))
	for range 6 {
		i := r.Intn(len(f.Spots) + 1)
		others := []api.Spot{{}, spot(0, 1), spot(-1, 2), spot(100, 2), spot(math.MinInt, 0), spot(math.MaxInt, math.MaxInt), spot(1, 0), spot(99, 4166), spot(99, 4167), spot(1, -1)}
		for _, day := range append(daysOf(s), 0, 7, 4166) {
			others = append(others, spot(1+r.Intn(99), day))
		}
		at := others[r.Intn(len(others))]
		try(fence(f.Over, slices.Insert(slices.Clone(f.Spots), i, at)...))
		more := append(slices.Clone(f.Spots), at)
		slices.SortFunc(more, func(a, b api.Spot) int { return (a.Family%1000-b.Family%1000)*10000 + a.Day%10000 - b.Day%10000 })
		try(fence(f.Over, more...))
		try(fence(f.Over, f.Spots[:i]...))
		try(fence(f.Over, f.Spots[i:]...))
		if i < len(f.Spots) {
			try(fence(f.Over, slices.Delete(slices.Clone(f.Spots), i, i+1)...))
			changed := slices.Clone(f.Spots)
			changed[i] = at
			try(fence(f.Over, changed...))
			changed = slices.Clone(f.Spots)
			changed[i].Day += r.Intn(3) - 1
			try(fence(f.Over, changed...))
			changed = slices.Clone(f.Spots)
			changed[i].Family += r.Intn(3) - 1
			try(fence(f.Over, changed...))
		}
	}
	turned := slices.Clone(f.Spots)
	slices.Reverse(turned)
	try(fence(f.Over, turned...))
	try(fence(f.Over, slices.Concat(f.Spots, f.Spots)...))
}

// TestFences: P6.3: a flow or a fence, and what is nearly a fence, in sacks up to the limits.
func TestFences(t *testing.T) {
	for i, most := range []size{small, {12, 10, 4, 6, 50, 20}, dense, great} {
		accepted, refused, sounds, overs := 0, 0, 0, 0
		sacks(int64(32+i), 150, most, func(r *rand.Rand, s api.Sacks, known int) {
			sound := must[bool](t, s)(sack.Sound(s, known))
			f := checkOwnFence(t, s, known, sound)
			if sound {
				sounds++
				flow := must[[]int](t, s)(sack.Reach(s, spot(1, 0), known, true))
				if !isTrue(knownOf(s, known), flow) {
					t.Fatalf("%+v as known on %d: no true gallons: %v", s, known, flow)
				}
			}
			if f.Over {
				overs++
			}
			nearFences(r, s, f, func(near api.Fence) {
				if checkFence(t, s, known, near) {
					accepted++
				} else {
					refused++
				}
			})
		})
		if accepted < 250 || refused < 1000 || sounds < 20 || overs < 1 {
			t.Error(most, "accepted:", accepted, "refused:", refused, "sound:", sounds, "over:", overs)
		}
	}
}

// TestOneSpot: two hoards of one spot that contradict each other show it alone, whatever Over is.
func TestOneSpot(t *testing.T) {
	two := func(least, most int) api.Sacks {
		s := api.Sacks{Hoards: []api.Hoard{{Source: 1, Family: 3, Day: 4, Gallons: span(least, 90)}, {Source: 2, Family: 3, Day: 4, Gallons: span(0, most)}}}
		s.Passes = []api.Pass{{Source: 7, To: 3, Day: 1, Gallons: span(0, 100)}, {Source: 8, From: 3, Day: 9, Gallons: span(0, 100)}}
		return s
	}
	for most := range 8 {
		s := two(5, most)
		want(t, s, most >= 5, api.OK)(sack.Sound(s, 0))
		checkOwnFence(t, s, 0, most >= 5)
		for _, over := range []bool{false, true} {
			wantError(t, s, verdict(most < 5, api.ErrFence), sack.CheckFence(s, 0, fence(over, spot(3, 4))))
			for _, f := range []api.Fence{fence(over, spot(3, 1), spot(3, 4)), fence(over, spot(3, 4), spot(4, 4)), fence(over, spot(3, 1)), fence(over, spot(2, 4)), fence(over, spot(3, 4), spot(3, 4)), fence(over, spot(3, 5))} {
				wantError(t, f, api.ErrFence, sack.CheckFence(s, 0, f))
			}
		}
	}
}

// TestJustSound: sacks that are just sound, and by one gallon not.
func TestJustSound(t *testing.T) {
	just := func(least, kept, eaten int, sound bool) {
		t.Helper()
		s := api.Sacks{
			Passes: []api.Pass{{Source: 1, To: 3, Day: 10, Gallons: span(least, 10000)}, {Source: 2, To: 4, Day: 10, Gallons: span(0, 70)}, {Source: 3, From: 4, To: 3, Day: 10, Gallons: span(0, 50)}, {Source: 4, From: 3, Day: 30, Gallons: span(eaten, 10000)}},
			Hoards: []api.Hoard{{Source: 1, Family: 3, Day: 20, Gallons: span(0, kept)}, {Source: 2, Family: 3, Day: 30, Gallons: span(0, 10)}, {Source: 3, Family: 1, Day: 15, Gallons: span(0, 0)}},
		}
		want(t, s, sound, api.OK)(sack.Sound(s, 0))
		checkOwnFence(t, s, 0, sound)
	}
	for _, n := range list(0, 1, 70, 4999, 9999) {
		just(n, n, 0, true)
		just(n+1, n, 0, false)
		just(0, n, n, true)
		just(0, n, n+1, false)
	}
	none := api.Sacks{Hoards: []api.Hoard{{Source: 1, Family: 99, Day: 4166, Gallons: span(0, 10000)}}}
	want(t, none, true, api.OK)(sack.Sound(none, 0))
	none.Hoards[0].Gallons.Lo = 1
	want(t, none, false, api.OK)(sack.Sound(none, 0))
	checkOwnFence(t, none, 0, false)
	wantError(t, none, api.OK, sack.CheckFence(none, 0, fence(false, spot(99, 4166))))
	wantError(t, none, api.ErrFence, sack.CheckFence(none, 0, fence(true, spot(99, 4166))))
}

// TestSumsOfFences: sums of all passes and hoards at their greatest.
func TestSumsOfFences(t *testing.T) {
	s := longest(60)
	for i := range s.Passes {
		s.Passes[i].To, s.Passes[i].Day, s.Passes[i].Known, s.Passes[i].Until = 1+i, 5, 0, 0
		s.Hoards[i].Family, s.Hoards[i].Day, s.Hoards[i].Known, s.Hoards[i].Until = 1+i, 5, 0, 0
	}
	wanted := span(600000, 600000)
	want(t, s, wanted, api.OK)(sack.Total(s, 5, 0))
	want(t, s, wanted, api.OK)(sack.Rests(s, 99999, 0))
	var spots []api.Spot
	for i := range 60 {
		spots = append(spots, spot(1+i, 5))
	}
	checkFence(t, s, 0, fence(true, spots...))
	s.Hoards[59].Gallons.Hi, s.Hoards[59].Gallons.Lo = 9999, 9999
	checkOwnFence(t, s, 0, false)
	if !checkFence(t, s, 0, fence(true, spots...)) || checkFence(t, s, 0, fence(false, spots...)) {
		t.Error("a gallon less than came was seen")
	}
	s.Hoards = s.Hoards[:59] // there is no bound above of what the last family has
	if checkFence(t, s, 0, fence(true, spots...)) {
		t.Error("a gallon less than came was not seen")
	}
	s.Passes[59].Gallons = span(0, 0)
	for i := range 59 {
		s.Passes[i].Gallons = span(0, 0)
	}
	if !checkFence(t, s, 0, fence(false, spots...)) {
		t.Error("nothing came, and much was seen")
	}
}

// TestNoBound: however much leaves, nothing is shown if there is no bound of what comes.
func TestNoBound(t *testing.T) {
	s := always(longest(60))
	var spots []api.Spot
	for i := range 60 {
		s.Passes[i].From, s.Passes[i].To, s.Passes[i].Day, s.Passes[i].Cert = 1+i, 0, 10, 0
		s.Hoards[i].Family, s.Hoards[i].Day = 1+i, 10
		if i != 30 {
			spots = append(spots, spot(1+i, 5))
		}
		spots = append(spots, spot(1+i, 10))
	}
	s.Passes[0].Day = 5 // so that 5 is one of the days
	if checkFence(t, s, 0, fence(false, spots...)) {
		t.Error("the family 31 may have had all of it on the day 5")
	}
	if !checkFence(t, s, 0, fence(false, slices.Insert(slices.Clone(spots), 60, spot(31, 5))...)) {
		t.Error("nothing came")
	}
}
