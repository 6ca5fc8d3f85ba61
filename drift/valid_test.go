package drift_test

import (
	"math"
	"slices"
	"testing"

	"leazing/api"
	"leazing/drift"
)

// P4.1: what is valid, each limit at its edge and beyond it.

// edges calls try with numbers around the limits of a range, and whether they are within it.
func edges(lo, hi int, try func(n int, valid bool)) {
	for _, n := range list(math.MinInt, lo-1, lo, lo+1, hi-1, hi, hi+1, math.MaxInt) {
		try(n, lo <= n && n <= hi)
	}
}

// verdict returns OK if something is valid, and otherwise an error.
func verdict(valid bool, wrong api.Errno) api.Errno {
	if valid {
		return api.OK
	}
	return wrong
}

// checkChain wants a chain to be valid, or not, and so a ground that has it.
func checkChain(t *testing.T, c api.Chain, valid bool) {
	t.Helper()
	wantError(t, c, verdict(valid, api.ErrChain), drift.CheckChain(c))
	g := api.Ground{Chains: []api.Chain{{Id: 1, Link: api.Range{Lo: 1, Hi: 1}}, c}, Cells: []api.Cell{{Chain: 1, Links: 1}}}
	wantError(t, g, verdict(valid && c.Id > 1, api.ErrGround), drift.Check(g))
	wantError(t, g, verdict(valid, api.ErrGround), drift.Check(api.Ground{Chains: g.Chains[1:], Cells: []api.Cell{{Chain: c.Id, Links: 1}}}))
}

func TestCheckChain(t *testing.T) {
	edges(1, 99, func(n int, valid bool) { checkChain(t, api.Chain{Id: n, Link: api.Range{Lo: 5, Hi: 6}}, valid) })
	for _, lo := range list(1, 2, 500, 999, 1000) {
		edges(lo, 1000, func(n int, valid bool) { checkChain(t, api.Chain{Id: 7, Link: api.Range{Lo: lo, Hi: n}}, valid) })
		edges(1, lo, func(n int, valid bool) { checkChain(t, api.Chain{Id: 7, Link: api.Range{Lo: n, Hi: lo}}, valid) })
	}
	checkChain(t, api.Chain{}, false)
	checkChain(t, api.Chain{Id: 1, Link: api.Range{Lo: 2000, Hi: 2000}}, false)
}

func TestCheckCell(t *testing.T) {
	check := func(c api.Cell, valid bool) {
		t.Helper()
		wantError(t, c, verdict(valid, api.ErrCell), drift.CheckCell(c))
		g := api.Ground{Chains: []api.Chain{{Id: 1, Link: api.Range{Lo: 5, Hi: 6}}, {Id: 99, Link: api.Range{Lo: 5, Hi: 6}}}, Cells: []api.Cell{{Chain: 1, Links: 1}, c}}
		wantError(t, g, verdict(valid && (c.Chain == 1 || c.Chain == 99), api.ErrGround), drift.Check(g))
	}
	edges(1, 99, func(n int, valid bool) { check(api.Cell{Chain: n, Links: 7, Worth: 8}, valid) })
	edges(1, 1000, func(n int, valid bool) { check(api.Cell{Chain: 1, Links: n, Worth: 8}, valid) })
	edges(0, 10000, func(n int, valid bool) { check(api.Cell{Chain: 1, Links: 7, Worth: n}, valid) })
}

// laid returns a ground of so many chains, with the ids 2, 4, 6 and so on, and so many cells.
func laid(chains, cells int) api.Ground {
	var g api.Ground
	for i := range chains {
		g.Chains = append(g.Chains, api.Chain{Id: 2*i + 2, Link: api.Range{Lo: 5, Hi: 6}})
	}
	for i := range cells {
		g.Cells = append(g.Cells, api.Cell{Chain: 2*(i%max(1, chains)) + 2, Links: 1, Worth: i})
	}
	return g
}

func TestCheckGround(t *testing.T) {
	for chains := range 9 {
		for cells := range 27 {
			valid := chains >= 1 && chains <= 6 && cells >= 1 && cells <= 24
			wantError(t, list(chains, cells), verdict(valid, api.ErrGround), drift.Check(laid(chains, cells)))
		}
	}
	wantError(t, "no ground", api.ErrGround, drift.Check(api.Ground{}))
	wantError(t, "many chains", api.ErrGround, drift.Check(api.Ground{Chains: make([]api.Chain, 1000000), Cells: laid(1, 1).Cells}))
	wantError(t, "many cells", api.ErrGround, drift.Check(api.Ground{Chains: laid(1, 1).Chains, Cells: make([]api.Cell, 1000000)}))
	for _, a := range list(1, 2, 50, 98, 99) {
		for _, b := range list(1, 2, 50, 98, 99) {
			for _, c := range list(1, 2, 50, 98, 99) {
				g := laid(3, 1)
				g.Chains[0].Id, g.Chains[1].Id, g.Chains[2].Id = a, b, c
				for _, id := range list(a, b, c) {
					g.Cells[0].Chain = id
					wantError(t, g, verdict(a < b && b < c, api.ErrGround), drift.Check(g))
				}
			}
		}
	}
	for i := range 24 {
		g := laid(6, 24)
		g.Cells[i].Chain = 3
		wantError(t, g, api.ErrGround, drift.Check(g))
		g.Cells[i].Chain = 2
		wantError(t, g, api.OK, drift.Check(g))
	}
}

// checkClaim wants a claim to be valid, or not, and so claims that have it for a ground of 24 cells.
func checkClaim(t *testing.T, c api.Claim, valid bool) {
	t.Helper()
	wantError(t, c, verdict(valid, api.ErrClaim), drift.CheckClaim(c))
	wantError(t, c, verdict(valid, api.ErrClaims), drift.CheckClaims(laid(1, 24), []api.Claim{c}))
	two := []api.Claim{{Family: 50, Heads: 1}, c}
	wantError(t, two, verdict(valid && c.Family != 50, api.ErrClaims), drift.CheckClaims(laid(1, 24), two))
	slices.Reverse(two)
	wantError(t, two, verdict(valid && c.Family != 50, api.ErrClaims), drift.CheckClaims(laid(1, 24), two))
}

func TestCheckClaim(t *testing.T) {
	edges(1, 99, func(n int, valid bool) { checkClaim(t, api.Claim{Family: n, Heads: 2, From: 3, To: 4}, valid) })
	edges(1, 20, func(n int, valid bool) { checkClaim(t, api.Claim{Family: 1, Heads: n, From: 3, To: 4}, valid) })
	for _, cell := range list(0, 1, 11, 22, 23) {
		edges(cell, 23, func(n int, valid bool) { checkClaim(t, api.Claim{Family: 1, Heads: 2, From: cell, To: n}, valid) })
		edges(0, cell, func(n int, valid bool) { checkClaim(t, api.Claim{Family: 1, Heads: 2, From: n, To: cell}, valid) })
	}
	checkClaim(t, api.Claim{}, false)
	checkClaim(t, api.Claim{Family: 1, Heads: 2, From: 24, To: 24}, false)
	checkClaim(t, api.Claim{Family: 50, Heads: 2}, true)
}

// many returns so many claims of all of 24 cells, of the families 1, 3, 5 and so on.
func many(n int) []api.Claim {
	var l []api.Claim
	for i := range n {
		l = append(l, api.Claim{Family: 2*i + 1, Heads: 1, To: 23})
	}
	return l
}

func TestCheckClaims(t *testing.T) {
	for n := range 15 {
		wantError(t, n, verdict(n >= 1 && n <= 12, api.ErrClaims), drift.CheckClaims(laid(1, 24), many(n)))
	}
	wantError(t, "many claims", api.ErrClaims, drift.CheckClaims(laid(1, 24), make([]api.Claim, 1000000)))
	for i := range 12 {
		for other := range 12 {
			l := many(12)
			l[i].Family = 2*other + 1
			wantError(t, l, verdict(i == other, api.ErrClaims), drift.CheckClaims(laid(1, 24), l))
		}
		l := many(12)
		l[i].Heads = 0
		wantError(t, l, api.ErrClaims, drift.CheckClaims(laid(1, 24), l))
		wantError(t, l, api.ErrGround, drift.CheckClaims(laid(0, 24), l))
	}
	for cells := 1; cells <= 24; cells++ {
		for to := range 24 {
			one := []api.Claim{{Family: 1, Heads: 1, To: to}}
			wantError(t, list(cells, to), verdict(to < cells, api.ErrClaims), drift.CheckClaims(laid(6, cells), one))
			wantError(t, list(cells, to), verdict(to < cells, api.ErrClaims), drift.CheckClaims(laid(6, cells), append(one, api.Claim{Family: 2, Heads: 1})))
		}
	}
}

func TestCheckAsOthersDo(t *testing.T) {
	scenes(2, 500, great, func(s scene) {
		wantError(t, s, api.OK, drift.Check(s.g))
		wantError(t, s, api.OK, drift.CheckClaims(s.g, s.l))
	})
}
