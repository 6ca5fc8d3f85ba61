package sack_test

import (
	"math"
	"math/rand"
	"slices"
	"testing"

	"leazing/api"
	"leazing/sack"
)

// P6.1 and P6.2: true gallons, also those that the package would not return, and what they attain.

// around calls try with all lists of numbers that are at most one below or above the gallons of the passes.
func around(s api.Sacks, try func(flow []int)) {
	var choose func(flow []int)
	choose = func(flow []int) {
		if len(flow) == len(s.Passes) {
			try(flow)
			return
		}
		g := s.Passes[len(flow)].Gallons
		for n := g.Lo - 1; n <= g.Hi+1; n++ {
			choose(append(slices.Clone(flow), n))
		}
	}
	choose(nil)
}

// TestAllFlows: all numbers for the passes of small sacks, and a little beyond.
func TestAllFlows(t *testing.T) {
	accepted, refused := 0, 0
	sacks(50, 800, size{3, 3, 2, 2, 4, 1}, func(r *rand.Rand, s api.Sacks, known int) {
		k := knownOf(s, known)
		around(k, func(flow []int) {
			is := isTrue(k, flow)
			wantError(t, s, verdict(is, api.ErrFlow), sack.CheckFlow(s, known, flow))
			if is {
				accepted++
			} else {
				refused++
			}
			spotsTo(s, func(at api.Spot) {
				had := 0
				if is {
					had = hadBy(k, flow, at.Family, at.Day)
				}
				want(t, s, had, verdict(is, api.ErrFlow))(sack.Had(s, flow, at, known))
			})
		})
	})
	if accepted < 500 || refused < 5000 {
		t.Error("accepted:", accepted, "refused:", refused)
	}
}

// nearFlows calls try with lists that differ a little from true gallons.
func nearFlows(r *rand.Rand, flow []int, try func(near []int)) {
	try(flow)
	try(append(slices.Clone(flow), 0))
	for i := range flow {
		for _, n := range list(flow[i]-1, flow[i]+1, flow[r.Intn(len(flow))], 0, -1, 10000, 10001, math.MinInt, math.MaxInt) {
			near := slices.Clone(flow)
			near[i] = n
			try(near)
			near = slices.Clone(near)
			near[r.Intn(len(near))]++
			try(near)
		}
		try(flow[:i])
		try(without(flow, i))
	}
}

// TestFlows: what is attained, and what is nearly true gallons, in sacks up to the limits.
func TestFlows(t *testing.T) {
	for i, most := range []size{small, dense, great} {
		accepted, refused := 0, 0
		sacks(int64(51+i), 50, most, func(r *rand.Rand, s api.Sacks, known int) {
			k := knownOf(s, known)
			if !must[bool](t, s)(sack.Sound(s, known)) {
				return
			}
			at := spot(1+r.Intn(99), r.Intn(4167))
			if n := len(k.Passes); n > 0 {
				p := k.Passes[r.Intn(n)]
				at = spot(max(p.From, p.To), p.Day)
			}
			flow := must[[]int](t, s)(sack.Reach(s, at, known, r.Intn(2) == 0))
			nearFlows(r, flow, func(near []int) {
				is, had := isTrue(k, near), 0
				wantError(t, near, verdict(is, api.ErrFlow), sack.CheckFlow(s, known, near))
				if is {
					had = hadBy(k, near, at.Family, at.Day)
					accepted++
				} else {
					refused++
				}
				want(t, near, had, verdict(is, api.ErrFlow))(sack.Had(s, near, at, known))
			})
		})
		if accepted < 100 || refused < 500 {
			t.Error(most, "accepted:", accepted, "refused:", refused)
		}
	}
}

// checkReach wants both ends of what a family has to be attained.
func checkReach(t *testing.T, s api.Sacks, at api.Spot, known int) {
	t.Helper()
	k, have := knownOf(s, known), must[api.Range](t, s)(sack.Have(s, at, known))
	for _, most := range []bool{false, true} {
		flow := must[[]int](t, s)(sack.Reach(s, at, known, most))
		had, end := hadBy(k, flow, at.Family, at.Day), have.Lo
		if most {
			end = have.Hi
		}
		if !isTrue(k, flow) || had != end {
			t.Fatalf("%+v as known on %d: %d at %v by %v, of %v", s, known, had, at, flow, have)
		}
		want(t, s, end, api.OK)(sack.Had(s, flow, at, known))
	}
}

// checkAttain wants both ends of what passed by a pass to be attained.
func checkAttain(t *testing.T, s api.Sacks, source, known int) {
	t.Helper()
	k, went := knownOf(s, known), must[api.Range](t, s)(sack.Went(s, source, known))
	for _, most := range []bool{false, true} {
		flow, end := must[[]int](t, s)(sack.Attain(s, source, known, most)), went.Lo
		if most {
			end = went.Hi
		}
		if !isTrue(k, flow) || flow[indexOf(k, source)] != end {
			t.Fatalf("%+v as known on %d: %v for %d, of %v", s, known, flow, source, went)
		}
	}
}

// TestAttained: P6.2: both ends of Have and Went, in sacks up to the limits.
func TestAttained(t *testing.T) {
	for i, most := range []size{tiny, small, dense, great} {
		sounds, wide := 0, 0
		sacks(int64(54+i), 40, most, func(r *rand.Rand, s api.Sacks, known int) {
			sound := must[bool](t, s)(sack.Sound(s, known))
			if !sound {
				wantList(t, s, nil, api.ErrClash)(sack.Reach(s, spot(1, 1), known, true))
				return
			}
			sounds++
			for range 10 {
				at := spot(1+r.Intn(most.families), r.Intn(most.days+1))
				checkReach(t, s, at, known)
			}
			for _, p := range s.Passes {
				if indexOf(knownOf(s, known), p.Source) < 0 {
					wantList(t, s, nil, api.ErrTold)(sack.Attain(s, p.Source, known, false))
					continue
				}
				checkAttain(t, s, p.Source, known)
				checkReach(t, s, spot(max(p.From, p.To), p.Day), known)
				if went, _ := sack.Went(s, p.Source, known); went.Lo < went.Hi {
					wide++
				}
			}
		})
		if sounds < 10 || wide < 15 {
			t.Error(most, "sound:", sounds, "wide:", wide)
		}
	}
}
