package mill_test

import (
	"math/rand"
	"slices"
	"testing"

	"leazing/api"
	"leazing/mill"
)

// P5.1 and P5.2: what is threshed, the toll, the flour, the bundles that gave it, and the hours that it takes.

// gallonsBy returns what bundles give by a true yield, in whole gallons: one after the other for each 100.
func gallonsBy(truth, bundles int) int {
	hundredths, gallons := truth*bundles, 0
	for ; hundredths >= 100; hundredths -= 100 {
		gallons++
	}
	return gallons
}

// tollOf returns how many times a toll is taken of gallons.
func tollOf(toll, gallons int) int {
	kept := 0
	for ; gallons >= toll; gallons -= toll {
		kept++
	}
	return kept
}

// randomRange returns one of numbers from 0 to a greatest one: short, of one number, at an end, or any.
func randomRange(r *rand.Rand, most int) api.Range {
	lo := r.Intn(most + 1)
	switch r.Intn(6) {
	case 0:
		lo = 0
	case 1:
		return span(most-min(most, r.Intn(3)), most)
	case 2:
		return span(lo, lo)
	case 3:
		return span(lo, min(most, lo+r.Intn(5)))
	}
	return span(lo, lo+r.Intn(most-lo+1))
}

func randomYield(r *rand.Rand) api.Yield {
	y := api.Yield{Gallons: randomRange(r, 1000), Toll: 2 + r.Intn(99)}
	switch r.Intn(5) {
	case 0:
		y.Toll = 2
	case 1:
		y.Toll = 100
	case 2:
		y.Toll = 2 + r.Intn(8)
	}
	return y
}

// yields calls try with n random yields and numbers of bundles: always the same ones, and those at all ends.
func yields(seed int64, n int, try func(r *rand.Rand, y api.Yield, bundles api.Range)) {
	r := rand.New(rand.NewSource(seed))
	for _, toll := range list(2, 3, 99, 100) {
		for _, gallons := range []api.Range{span(0, 0), span(1000, 1000), span(0, 1000), span(1, 1), span(999, 1000)} {
			for _, bundles := range []api.Range{span(0, 0), span(2000, 2000), span(0, 2000), span(1, 1), span(99, 101)} {
				try(r, api.Yield{Gallons: gallons, Toll: toll}, bundles)
			}
		}
	}
	for range n {
		try(r, randomYield(r), randomRange(r, 2000))
	}
}

// some returns both ends of a range, and numbers between: all if they are few.
func some(r *rand.Rand, of api.Range) []int {
	numbers := list(of.Lo, of.Hi)
	if of.Hi-of.Lo < 20 {
		for n := of.Lo; n <= of.Hi; n++ {
			numbers = append(numbers, n)
		}
		return numbers
	}
	for range 10 {
		numbers = append(numbers, of.Lo+r.Intn(of.Hi-of.Lo+1))
	}
	return numbers
}

// TestTold: what is threshed, and the flour, are told by the ends of all true ones, of which both are attained; toll and flour add up to what is threshed; and the true number of bundles is within those of the flour.
func TestTold(t *testing.T) {
	yields(10, 600, func(r *rand.Rand, y api.Yield, bundles api.Range) {
		threshed, flour := span(20001, -1), span(20001, -1)
		for _, truth := range some(r, y.Gallons) {
			for _, b := range some(r, bundles) {
				gallons := gallonsBy(truth, b)
				kept, e := mill.Toll(y, gallons)
				if e != api.OK || kept != tollOf(y.Toll, gallons) {
					t.Fatalf("%+v: %d of %d, error %d", y, kept, gallons, e)
				}
				threshed = span(min(threshed.Lo, gallons), max(threshed.Hi, gallons))
				flour = span(min(flour.Lo, gallons-kept), max(flour.Hi, gallons-kept))
				if r.Intn(20) == 0 {
					checkTrueBundles(t, y, b, gallons-kept)
				}
			}
		}
		want(t, []any{y, bundles}, threshed, api.OK)(mill.Threshed(y, bundles))
		want(t, []any{y, bundles}, flour, api.OK)(mill.Flour(y, bundles))
	})
}

// checkTrueBundles wants a number of bundles to be among those that are told of their flour.
func checkTrueBundles(t *testing.T, y api.Yield, bundles, flour int) {
	t.Helper()
	for _, r := range []api.Range{span(flour, flour), span(0, flour), span(flour, 20000), span(max(0, flour-3), flour)} {
		got, e := mill.Bundles(y, r)
		if e != api.OK || bundles < got.Lo || bundles > got.Hi {
			t.Fatalf("%+v: %v of the flour %v, error %d, not %d", y, got, r, e, bundles)
		}
	}
}

// TestTolls: the toll of all gallons, and the flour of all bundles that give so many.
func TestTolls(t *testing.T) {
	for toll := 2; toll <= 100; toll++ {
		y := api.Yield{Gallons: span(100, 100), Toll: toll}
		for gallons := range 20001 {
			if gallons > 300 && gallons < 19900 && gallons%97 > 0 {
				continue
			}
			want(t, toll, tollOf(toll, gallons), api.OK)(mill.Toll(y, gallons))
			if gallons <= 2000 {
				want(t, toll, span(gallons-tollOf(toll, gallons), gallons-tollOf(toll, gallons)), api.OK)(mill.Flour(y, span(gallons, gallons)))
			}
		}
	}
}

// givers returns which flour each number of bundles gives by the true yields, rising.
func givers(y api.Yield) [][]int {
	var all [][]int
	for bundles := range 2001 {
		var flour []int
		for truth := y.Gallons.Lo; truth <= y.Gallons.Hi; truth++ {
			gallons := truth * bundles / 100
			flour = append(flour, gallons-gallons/y.Toll)
		}
		all = append(all, flour)
	}
	return all
}

// giving returns the least and the greatest number of bundles, of all numbers, that give flour in a range; false if none does.
func giving(all [][]int, flour api.Range) (api.Range, bool) {
	var numbers []int
	for bundles, given := range all {
		if slices.ContainsFunc(given, func(n int) bool { return flour.Lo <= n && n <= flour.Hi }) {
			numbers = append(numbers, bundles)
		}
	}
	if len(numbers) == 0 {
		return api.Range{}, false
	}
	return span(numbers[0], numbers[len(numbers)-1]), true
}

// TestBundles: all numbers of bundles, by all true yields, are tried.
func TestBundles(t *testing.T) {
	found, none := 0, 0
	yields(11, 60, func(r *rand.Rand, y api.Yield, _ api.Range) {
		if y.Gallons.Hi-y.Gallons.Lo > 60 && r.Intn(8) > 0 {
			y.Gallons.Hi = y.Gallons.Lo + r.Intn(4)
		}
		all := givers(y)
		ranges := []api.Range{span(0, 0), span(20000, 20000), span(0, 20000), span(1, 1)}
		for range 6 {
			most := max(1, y.Gallons.Hi*20)
			ranges = append(ranges, randomRange(r, most), randomRange(r, min(20000, 1+most*11/10)))
		}
		for _, flour := range ranges {
			told, is := giving(all, flour)
			want(t, []any{y, flour}, told, verdict(is, api.ErrNone))(mill.Bundles(y, flour))
			if is {
				found++
			} else {
				none++
			}
		}
	})
	if found < 500 || none < 200 {
		t.Error("found:", found, "none:", none)
	}
}

// TestBundlesAtEnds: flour over which the bundles leap, the most that there can be, and bundles that give nothing.
func TestBundlesAtEnds(t *testing.T) {
	most := api.Yield{Gallons: span(999, 1000), Toll: 100} // 19781 or 19800 gallons of 2000 bundles, 19771 or 19791 of 1999
	want(t, "between", api.Range{}, api.ErrNone)(mill.Bundles(most, span(19792, 19799)))
	want(t, "of 2000", span(2000, 2000), api.OK)(mill.Bundles(most, span(19792, 19800)))
	want(t, "of 1999", span(1999, 1999), api.OK)(mill.Bundles(most, span(19791, 19799)))
	want(t, "of 1998 too", span(1998, 2000), api.OK)(mill.Bundles(most, span(19781, 19781)))
	want(t, "too much", api.Range{}, api.ErrNone)(mill.Bundles(most, span(19801, 20000)))
	half := api.Yield{Gallons: span(1000, 1000), Toll: 2}
	want(t, "the most", span(2000, 2000), api.OK)(mill.Bundles(half, span(10000, 20000)))
	want(t, "too much", api.Range{}, api.ErrNone)(mill.Bundles(half, span(10001, 20000)))
	want(t, "nothing", span(0, 0), api.OK)(mill.Bundles(half, span(0, 0)))
	none := api.Yield{Gallons: span(0, 0), Toll: 2}
	want(t, "of all", span(0, 2000), api.OK)(mill.Bundles(none, span(0, 0)))
	want(t, "of all", span(0, 2000), api.OK)(mill.Bundles(none, span(0, 20000)))
	want(t, "of none", api.Range{}, api.ErrNone)(mill.Bundles(none, span(1, 20000)))
	any := api.Yield{Gallons: span(0, 1000), Toll: 2}
	want(t, "of all", span(0, 2000), api.OK)(mill.Bundles(any, span(0, 0)))
	want(t, "of so many that 1 in 100 leaps over it", span(1, 299), api.OK)(mill.Bundles(any, span(1, 1)))
	one := api.Yield{Gallons: span(1, 1), Toll: 100}
	want(t, "less than a gallon", span(0, 99), api.OK)(mill.Bundles(one, span(0, 0)))
	want(t, "the last gallon", span(2000, 2000), api.OK)(mill.Bundles(one, span(20, 20)))
}

// TestWants: the least number of hours that are enough.
func TestWants(t *testing.T) {
	check := func(gallons, hourly int) {
		t.Helper()
		n, e := mill.Wants(gallons, hourly)
		if e != api.OK || n < 0 || n*hourly < gallons || n > 0 && (n-1)*hourly >= gallons {
			t.Fatalf("%d hours for %d gallons, %d in an hour, error %d", n, gallons, hourly, e)
		}
	}
	for gallons := range 120 {
		for hourly := 1; hourly < 130; hourly++ {
			check(gallons, hourly)
			check(20000-gallons, hourly)
			check(20000-gallons, 20001-hourly)
			check(gallons, 20001-hourly)
		}
	}
	want(t, "the most", 20000, api.OK)(mill.Wants(20000, 1))
	want(t, "the least", 0, api.OK)(mill.Wants(0, 20000))
	want(t, "all in an hour", 1, api.OK)(mill.Wants(20000, 20000))
	want(t, "one more", 2, api.OK)(mill.Wants(20000, 19999))
}
