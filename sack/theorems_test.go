package sack_test

import (
	"math/rand"
	"reflect"
	"slices"
	"testing"

	"leazing/api"
	"leazing/sack"
)

// P6.2, P6.4 and P6.6 to P6.8, in sacks up to the limits.

func isIn(n int, r api.Range) bool { return r.Lo <= n && n <= r.Hi }

func isPart(part, whole api.Range) bool { return isIn(part.Lo, whole) && isIn(part.Hi, whole) }

// flows calls try with sound sacks and some of their true gallons, and what of them counts.
func flows(t *testing.T, seed int64, n int, most size, try func(r *rand.Rand, s, k api.Sacks, known int, flow []int)) {
	tried := 0
	sacks(seed, n, most, func(r *rand.Rand, s api.Sacks, known int) {
		if !must[bool](t, s)(sack.Sound(s, known)) {
			return
		}
		k := knownOf(s, known)
		for range 3 {
			flow := must[[]int](t, s)(sack.Reach(s, someSpot(r, k), known, r.Intn(2) == 0))
			try(r, s, k, known, flow)
			if n := len(k.Passes); n > 0 {
				flow = must[[]int](t, s)(sack.Attain(s, k.Passes[r.Intn(n)].Source, known, r.Intn(2) == 0))
				try(r, s, k, known, flow)
			}
			tried++
		}
	})
	if tried < n/4 {
		t.Error(most, "tried:", tried)
	}
}

// someSpot returns a spot of what counts, or any one.
func someSpot(r *rand.Rand, k api.Sacks) api.Spot {
	at := spot(1+r.Intn(99), r.Intn(4167))
	if n := len(k.Passes); n > 0 && r.Intn(4) > 0 {
		p := k.Passes[r.Intn(n)]
		at = spot(max(p.From, p.To), min(4166, p.Day+r.Intn(2)))
	}
	if n := len(k.Hoards); n > 0 && r.Intn(4) == 0 {
		h := k.Hoards[r.Intn(n)]
		at = spot(h.Family, h.Day)
	}
	return at
}

// TestWithinBounds: P6.2.
func TestWithinBounds(t *testing.T) {
	check := func(r *rand.Rand, s, k api.Sacks, known int, flow []int) {
		if !isTrue(k, flow) {
			t.Fatalf("%+v: no true gallons: %v", s, flow)
		}
		for range 5 {
			at := someSpot(r, k)
			if have := must[api.Range](t, s)(sack.Have(s, at, known)); !isIn(hadBy(k, flow, at.Family, at.Day), have) {
				t.Fatalf("%+v: %v is not within %v at %v", s, flow, have, at)
			}
		}
		for i, p := range k.Passes {
			if went := must[api.Range](t, s)(sack.Went(s, p.Source, known)); !isIn(flow[i], went) {
				t.Fatalf("%+v: %v is not within %v at %v", s, flow, went, p)
			}
		}
		for cert := 1; cert <= 4; cert++ {
			if rests := must[api.Range](t, s)(sack.Rests(s, cert, known)); !isIn(restsBy(k, flow, cert), rests) {
				t.Fatalf("%+v: %v is not within %v of %d", s, flow, rests, cert)
			}
		}
	}
	flows(t, 80, 100, small, check)
	flows(t, 81, 40, dense, check)
	flows(t, 82, 40, great, check)
}

// TestNothingLost: P6.4.
func TestNothingLost(t *testing.T) {
	check := func(r *rand.Rand, s, k api.Sacks, known int, flow []int) {
		for _, day := range append(daysOf(k), 0, r.Intn(4167), 4166) {
			had, came := 0, 0
			for f := 1; f <= 99; f++ {
				had += must[int](t, s)(sack.Had(s, flow, spot(f, day), known))
			}
			for i, p := range k.Passes {
				if p.Day <= day && p.From == 0 {
					came += flow[i]
				}
				if p.Day <= day && p.To == 0 {
					came -= flow[i]
				}
			}
			if total := must[api.Range](t, s)(sack.Total(s, day, known)); had != came || !isIn(had, total) {
				t.Fatalf("%+v: %d of %d, in %v on %d", s, had, came, total, day)
			}
		}
	}
	flows(t, 83, 40, small, check)
	flows(t, 84, 4, dense, check)
	flows(t, 85, 1, great, check)
}

// TestRestsOnIt: P6.6.
func TestRestsOnIt(t *testing.T) {
	moved, stayed, nothing, clashes := 0, 0, 0, 0
	check := func(r *rand.Rand, s api.Sacks, known int) {
		for cert := 1; cert <= 3; cert++ {
			if r.Intn(2) == 0 {
				s = lessOf(r, s, cert)
			}
			less, e := sack.Without(s, cert)
			if e != api.OK {
				continue
			}
			day := someSpot(r, s).Day
			families := must[[]int](t, s)(sack.Moved(s, cert, day, known))
			for _, f := range rising(append(named(s), 1, 50, 99)) {
				before, e := sack.Have(s, spot(f, day), known)
				after, g := sack.Have(less, spot(f, day), known)
				is := (before != after || e != g) && slices.Contains(named(s), f)
				if is != slices.Contains(families, f) {
					t.Fatalf("%+v without %d: %d moves: %t, and %v move", s, cert, f, is, families)
				}
				if is {
					moved++
				} else {
					stayed++
				}
			}
			rests, e := sack.Rests(s, cert, known)
			if e != api.OK || rests.Hi > 0 {
				clashes++
				continue
			}
			nothing++
			want(t, s, true, api.OK)(sack.Sound(less, known))
		}
	}
	sacks(86, 2000, small, check)
	sacks(87, 20, dense, check)
	sacks(88, 20, great, check)
	if min(moved, stayed, nothing, clashes) < 100 {
		t.Error("moved:", moved, "stayed:", stayed, "nothing rests on it:", nothing, "something:", clashes)
	}
}

// lessOf returns sacks by whose passes of a certificate nothing needs to pass, and often nothing can.
func lessOf(r *rand.Rand, s api.Sacks, cert int) api.Sacks {
	s.Passes = slices.Clone(s.Passes)
	most := r.Intn(3)
	for i, p := range s.Passes {
		if p.Cert == cert {
			s.Passes[i].Gallons = span(0, min(most, p.Gallons.Hi))
		}
	}
	return s
}

// ranges returns what Have, Went, Rests and Total say of sacks, in an order that hangs on what is named.
func ranges(t *testing.T, s api.Sacks, known int) []api.Range {
	t.Helper()
	var all []api.Range
	for _, f := range named(s) {
		for _, day := range daysOf(s) {
			all = append(all, must[api.Range](t, s)(sack.Have(s, spot(f, day), known)))
		}
	}
	for _, p := range knownOf(s, known).Passes {
		all = append(all, must[api.Range](t, s)(sack.Went(s, p.Source, known)))
	}
	for cert := 1; cert <= 3; cert++ {
		all = append(all, must[api.Range](t, s)(sack.Rests(s, cert, known)))
	}
	for _, day := range daysOf(s) {
		all = append(all, must[api.Range](t, s)(sack.Total(s, day, known)))
	}
	return all
}

// spotOfSacks returns one of a family on a day that sacks name, if there is one.
func spotOfSacks(r *rand.Rand, s api.Sacks) (api.Spot, bool) {
	families, days := named(s), daysOf(s)
	if len(families) == 0 {
		return api.Spot{}, false
	}
	return spot(families[r.Intn(len(families))], days[r.Intn(len(days))]), true
}

// TestNarrower: P6.7.
func TestNarrower(t *testing.T) {
	narrower, clashes, kept := 0, 0, 0
	check := func(r *rand.Rand, s api.Sacks, known int) {
		at, ok := spotOfSacks(r, s)
		if !ok || !must[bool](t, s)(sack.Sound(s, known)) {
			return
		}
		have, before := must[api.Range](t, s)(sack.Have(s, at, known)), ranges(t, s, known)
		for range 3 {
			lo := max(0, have.Lo+r.Intn(7)-3)
			h := api.Hoard{Source: 99999, Family: at.Family, Day: at.Day, Gallons: span(lo, lo+r.Intn(max(1, have.Hi-lo+3)))}
			more, e := sack.With(s, h)
			if e != api.OK {
				continue
			}
			if !must[bool](t, s)(sack.Sound(more, known)) {
				clashes++
				continue
			}
			narrower++
			for i, r := range ranges(t, more, known) {
				if !isPart(r, before[i]) {
					t.Fatalf("%+v with %+v: %v is not in %v", s, h, r, before[i])
				}
			}
			if now := must[api.Range](t, s)(sack.Have(more, at, known)); !isPart(now, h.Gallons) {
				t.Fatalf("%+v with %+v: %v", s, h, now)
			}
		}
		h := api.Hoard{Source: 99998, Family: at.Family, Day: at.Day, Gallons: have}
		if more, e := sack.With(s, h); e == api.OK {
			kept++
			if now := ranges(t, more, known); !slices.Equal(now, before) {
				t.Fatalf("%+v with %+v: %v, and not %v", s, h, now, before)
			}
		}
	}
	sacks(90, 400, tiny, check)
	sacks(91, 200, small, check)
	sacks(92, 20, size{60, 59, 4, 5, 3000, 1000}, check)
	if min(narrower, clashes, kept) < 100 {
		t.Error("narrower:", narrower, "contradicting:", clashes, "the same:", kept)
	}
}

// results returns all that is said of sacks as known on a day, of spots and numbers that others give.
func results(s, of api.Sacks, known int) []any {
	var all []any
	add := func(values ...any) { all = append(all, values...) }
	keep := func(x any, e api.Errno) { add(x, e) }
	keep(two(sack.Sound(s, known)))
	keep(two(sack.Fence(s, known)))
	clash, e := sack.Clash(s, known)
	add(clash, e, sack.CheckClash(s, known, clash), sack.CheckFlow(s, known, nil))
	for _, f := range named(of) {
		for _, day := range append(daysOf(of), 4166) {
			at := spot(f, day)
			keep(two(sack.Have(s, at, known)))
			keep(two(sack.Reach(s, at, known, true)))
			keep(two(sack.Reach(s, at, known, false)))
			add(sack.CheckFence(s, known, fence(true, at)), sack.CheckFence(s, known, fence(false, at)))
		}
	}
	for source := range 30 {
		keep(two(sack.Went(s, source, known)))
		keep(two(sack.Attain(s, source, known, true)))
		flow, _ := sack.Attain(s, source, known, false)
		add(flow, sack.CheckFlow(s, known, flow))
		keep(two(sack.Had(s, flow, spot(1, 2), known)))
	}
	for n := range 5 {
		keep(two(sack.Rests(s, n, known)))
		keep(two(sack.Total(s, n, known)))
	}
	return all
}

func two[T any](x T, e api.Errno) (any, api.Errno) { return x, e }

// later returns sacks that differ only in what becomes known later than on a day.
func later(r *rand.Rand, s api.Sacks, known int) api.Sacks {
	var other api.Sacks
	for _, p := range s.Passes {
		other.Passes = change(r, other.Passes, p, known, &p.Known, &p.Until, func() api.Pass { return p })
	}
	for _, h := range s.Hoards {
		other.Hoards = change(r, other.Hoards, h, known, &h.Known, &h.Until, func() api.Hoard { return h })
	}
	for i := range min(60-len(other.Passes), r.Intn(3)) {
		other.Passes = append(other.Passes, api.Pass{Source: 50 + i, From: r.Intn(3), To: 3 + r.Intn(97), Day: r.Intn(5), Gallons: span(3, 9), Known: known + 1})
	}
	for i := range min(60-len(other.Hoards), r.Intn(3)) {
		other.Hoards = append(other.Hoards, api.Hoard{Source: 50 + i, Family: 1 + r.Intn(99), Day: r.Intn(5), Gallons: span(3, 9), Known: known + 1 + r.Intn(3)})
	}
	return other
}

// change adds what is known on a day, with another end later on; or, maybe, what is known later.
func change[T any](r *rand.Rand, l []T, old T, known int, from, until *int, changed func() T) []T {
	switch {
	case *from > known && r.Intn(2) == 0:
		return l
	case *from > known:
		return append(l, old)
	case *until == 0 || *until > known:
		*until = list(0, known+1, known+2, 4166)[r.Intn(4)]
	}
	return append(l, changed())
}

// TestAsKnown: P6.8.
func TestAsKnown(t *testing.T) {
	differ := 0
	check := func(r *rand.Rand, s api.Sacks, known int) {
		other := later(r, s, known)
		wantError(t, other, api.OK, sack.Check(other))
		before, after := results(s, s, known), results(other, s, known)
		if !reflect.DeepEqual(before, after) {
			t.Fatalf("%+v, and %+v: as known on %d there is a difference", s, other, known)
		}
		if !reflect.DeepEqual(results(s, s, known+2), results(other, s, known+2)) {
			differ++
		}
		for cert := 1; cert <= 3; cert++ {
			one, e := sack.Moved(s, cert, 2, known)
			two, g := sack.Moved(other, cert, 2, known)
			if e == api.OK && g == api.OK && !slices.Equal(common(one, s, other), common(two, s, other)) {
				t.Fatalf("%+v, and %+v: as known on %d, %v and %v move", s, other, known, one, two)
			}
		}
	}
	sacks(93, 300, tiny, check)
	sacks(94, 300, small, check)
	if differ < 100 {
		t.Error("differ later:", differ)
	}
}

// common returns the families of a list that are named by two sacks.
func common(l []int, a, b api.Sacks) []int {
	return slices.DeleteFunc(l, func(f int) bool { return !slices.Contains(named(a), f) || !slices.Contains(named(b), f) })
}
