package mill_test

import (
	"math"
	"slices"
	"testing"

	"leazing/api"
	"leazing/mill"
)

// P5.1: what is valid, each limit at its edge and beyond it, and who comes.

// edges calls try with numbers around the limits of a range, and whether they are within it.
func edges(lo, hi int, try func(n int, valid bool)) {
	for _, n := range list(math.MinInt, -hi, lo-1, lo, lo+1, hi-1, hi, hi+1, math.MaxInt) {
		try(n, lo <= n && n <= hi)
	}
}

// verdict returns OK if something is valid, and otherwise an error.
func verdict(valid bool, wrong api.Errno) api.Errno {
	if valid {
		return api.OK
	}
	return wrong
}

// checkYield wants a yield to be valid, or not, also by what takes one.
func checkYield(t *testing.T, y api.Yield, valid bool) {
	t.Helper()
	wantError(t, y, verdict(valid, api.ErrYield), mill.CheckYield(y))
	_, e := mill.Threshed(y, span(0, 2000))
	wantError(t, y, verdict(valid, api.ErrYield), e)
	_, e = mill.Toll(y, 20000)
	wantError(t, y, verdict(valid, api.ErrYield), e)
	_, e = mill.Flour(y, span(2000, 2000))
	wantError(t, y, verdict(valid, api.ErrYield), e)
	_, e = mill.Bundles(y, span(0, 20000))
	wantError(t, y, verdict(valid, api.ErrYield), e)
}

func TestCheckYield(t *testing.T) {
	for _, lo := range list(0, 1, 500, 999, 1000) {
		edges(lo, 1000, func(n int, valid bool) { checkYield(t, api.Yield{Gallons: span(lo, n), Toll: 2}, valid) })
		edges(0, lo, func(n int, valid bool) { checkYield(t, api.Yield{Gallons: span(n, lo), Toll: 100}, valid) })
	}
	edges(2, 100, func(n int, valid bool) { checkYield(t, api.Yield{Gallons: span(0, 1000), Toll: n}, valid) })
	checkYield(t, api.Yield{}, false)
	checkYield(t, api.Yield{Gallons: span(1001, 1001), Toll: 2}, false)
	checkYield(t, api.Yield{Gallons: span(-1, -1), Toll: 2}, false)
	checkYield(t, api.Yield{Toll: 2}, true)
}

// checkRanges calls check with ranges around those of the numbers from 0 to a greatest one, and whether they are valid.
func checkRanges(most int, check func(r api.Range, valid bool)) {
	for _, n := range list(0, 1, most/2, most-1, most) {
		edges(n, most, func(hi int, valid bool) { check(span(n, hi), valid) })
		edges(0, n, func(lo int, valid bool) { check(span(lo, n), valid) })
	}
	check(span(most+1, most+1), false)
	check(span(-1, -1), false)
	check(span(math.MaxInt, math.MinInt), false)
}

func TestCheckGrain(t *testing.T) {
	all := api.Yield{Gallons: span(0, 1000), Toll: 2}
	checkRanges(2000, func(r api.Range, valid bool) {
		var gallons, flour api.Range
		if valid {
			gallons, flour = span(0, 10*r.Hi), span(0, 5*r.Hi)
		}
		want(t, r, gallons, verdict(valid, api.ErrGrain))(mill.Threshed(all, r))
		want(t, r, flour, verdict(valid, api.ErrGrain))(mill.Flour(all, r))
	})
	checkRanges(20000, func(r api.Range, valid bool) {
		_, e := mill.Bundles(all, r)
		if (e == api.ErrGrain) == valid {
			t.Errorf("%v: error %d, valid: %t", r, e, valid)
		}
	})
	edges(0, 20000, func(n int, valid bool) {
		_, e := mill.Toll(all, n)
		wantError(t, n, verdict(valid, api.ErrGrain), e)
		_, e = mill.Wants(n, 7)
		wantError(t, n, verdict(valid, api.ErrGrain), e)
		_, e = mill.Wants(n, 0)
		wantError(t, n, api.ErrGrain, e)
	})
	edges(1, 20000, func(n int, valid bool) {
		_, e := mill.Wants(7, n)
		wantError(t, n, verdict(valid, api.ErrGrain), e)
	})
}

// checkComer wants a comer to be valid, or not, and so mills that it comes to.
func checkComer(t *testing.T, c api.Comer, valid bool) {
	t.Helper()
	wantError(t, c, verdict(valid, api.ErrComer), mill.CheckComer(c))
	one := api.Mill{Hours: 24, Comers: []api.Comer{c}}
	wantError(t, one, verdict(valid, api.ErrMill), mill.Check(one))
	other := api.Comer{Family: 50, Hours: 5, Wants: 1}
	isNew := valid && c.Family != 50
	two := api.Mill{Hours: 24, Comers: []api.Comer{other, c}}
	wantError(t, two, verdict(isNew, api.ErrMill), mill.Check(two))
	wanted := two
	if !isNew {
		wanted = api.Mill{}
	}
	wantMill(t, c, wanted, verdict(isNew, api.ErrComer))(mill.With(without(two, 1), c))
	slices.Reverse(two.Comers)
	wantError(t, two, verdict(isNew, api.ErrMill), mill.Check(two))
}

func TestCheckComer(t *testing.T) {
	edges(1, 99, func(n int, valid bool) { checkComer(t, api.Comer{Family: n, Hours: 6, Wants: 2}, valid) })
	edges(0, 1<<24-1, func(n int, valid bool) { checkComer(t, api.Comer{Family: 7, Hours: n, Wants: 2}, valid) })
	edges(0, 24, func(n int, valid bool) { checkComer(t, api.Comer{Family: 7, Hours: 6, Wants: n}, valid) })
	checkComer(t, api.Comer{}, false)
	checkComer(t, api.Comer{Family: 50}, true)
	checkComer(t, api.Comer{Family: 1, Hours: 1 << 32}, false)
	checkComer(t, api.Comer{Family: 1, Hours: 1<<32 + 1}, false)
}

// many returns so many comers, of the families 1, 3, 5 and so on, at some hours.
func many(n, hours, wants int) []api.Comer {
	var comers []api.Comer
	for i := range n {
		comers = append(comers, api.Comer{Family: 2*i + 1, Hours: hours, Wants: wants})
	}
	return comers
}

// TestCheckHours: the hours of a mill, and those of its comers beside them.
func TestCheckHours(t *testing.T) {
	edges(0, 24, func(n int, valid bool) {
		wantError(t, n, verdict(valid, api.ErrMill), mill.Check(api.Mill{Hours: n}))
		wantError(t, n, verdict(valid, api.ErrMill), mill.Check(api.Mill{Hours: n, Comers: many(1, 0, 24)}))
	})
	for hours := range 25 {
		m := api.Mill{Hours: hours, Comers: many(3, 1<<hours-1, 24)}
		wantError(t, m, api.OK, mill.Check(m))
		for late := hours; late < 24; late++ {
			for _, more := range list(0, 1<<hours-1) {
				c := api.Comer{Family: 2, Hours: 1<<late | more}
				wantMill(t, c, api.Mill{}, api.ErrComer)(mill.With(m, c))
				for i := range 3 {
					wrong := changed(m, i, func(hours int) int { return c.Hours })
					wantError(t, wrong, api.ErrMill, mill.Check(wrong))
				}
			}
		}
	}
}

func TestCheckComers(t *testing.T) {
	for n := range 15 {
		m := api.Mill{Hours: 3, Comers: many(n, 7, 1)}
		wantError(t, n, verdict(n <= 12, api.ErrMill), mill.Check(m))
		last := api.Comer{Family: 99, Hours: 3}
		switch {
		case n < 12:
			wantMill(t, n, with(m, last), api.OK)(mill.With(m, last))
		case n == 12:
			wantMill(t, n, api.Mill{}, api.ErrLong)(mill.With(m, last))
		default:
			wantMill(t, n, api.Mill{}, api.ErrMill)(mill.With(m, last))
		}
	}
	wantError(t, "many comers", api.ErrMill, mill.Check(api.Mill{Comers: make([]api.Comer, 1000000)}))
	for i := range 12 {
		for other := range 12 {
			m := api.Mill{Hours: 1, Comers: many(12, 1, 1)}
			m.Comers[i].Family = 2*other + 1
			wantError(t, m, verdict(i == other, api.ErrMill), mill.Check(m))
			wantMill(t, "a family that comes", api.Mill{}, api.ErrComer)(mill.With(without(example(), 0), example().Comers[1+i%3]))
		}
		full := api.Mill{Hours: 1, Comers: many(12, 1, 1)}
		wantMill(t, "ErrComer before ErrLong", api.Mill{}, api.ErrComer)(mill.With(full, full.Comers[i]))
	}
}

// TestComersOfAll: With and Without of all mills, for all families.
func TestComersOfAll(t *testing.T) {
	mills(2, 500, great, func(m api.Mill) {
		wantError(t, m, api.OK, mill.Check(m))
		comes := map[int]int{}
		for i, c := range m.Comers {
			wantError(t, c, api.OK, mill.CheckComer(c))
			comes[c.Family] = i
		}
		for _, family := range list(math.MinInt, -1, 0, 100, math.MaxInt) {
			wantMill(t, family, api.Mill{}, api.ErrComes)(mill.Without(m, family))
		}
		for family := 1; family <= 99; family++ {
			c := api.Comer{Family: family, Hours: 1<<m.Hours - 1, Wants: 24}
			i, has := comes[family]
			switch {
			case has:
				wantMill(t, family, api.Mill{}, api.ErrComer)(mill.With(m, c))
				wantMill(t, family, without(m, i), api.OK)(mill.Without(m, family))
				continue
			case len(m.Comers) == 12:
				wantMill(t, family, api.Mill{}, api.ErrLong)(mill.With(m, c))
			default:
				wantMill(t, family, with(m, c), api.OK)(mill.With(m, c))
				wantMill(t, family, m, api.OK)(mill.Without(with(m, c), family))
			}
			wantMill(t, family, api.Mill{}, api.ErrComes)(mill.Without(m, family))
		}
	})
}
