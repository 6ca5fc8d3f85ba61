package mill

import (
	"sort"

	"leazing/api"
)

// Threshed returns the least and the greatest number of gallons that bundles give.
func Threshed(y api.Yield, bundles api.Range) (api.Range, api.Errno) {
	if e := checkGrain(y, isRange(bundles, api.MaxBundles)); e != api.OK {
		return api.Range{}, e
	}
	return threshed(y, bundles), api.OK
}

// Toll returns how many gallons the mill keeps.
func Toll(y api.Yield, gallons int) (int, api.Errno) {
	if e := checkGrain(y, within(gallons, 0, api.MaxGrain)); e != api.OK {
		return 0, e
	}
	return gallons / y.Toll, api.OK
}

// Flour returns the least and the greatest number of gallons of flour that bundles give.
func Flour(y api.Yield, bundles api.Range) (api.Range, api.Errno) {
	if e := checkGrain(y, isRange(bundles, api.MaxBundles)); e != api.OK {
		return api.Range{}, e
	}
	gallons := threshed(y, bundles)
	return api.Range{Lo: flourOf(y, gallons.Lo), Hi: flourOf(y, gallons.Hi)}, api.OK
}

// Bundles returns the least and the greatest number of bundles that may give some flour; ErrNone if no number does.
func Bundles(y api.Yield, flour api.Range) (api.Range, api.Errno) {
	if e := checkGrain(y, isRange(flour, api.MaxGrain)); e != api.OK {
		return api.Range{}, e
	}
	var told []int
	for bundles := range api.MaxBundles + 1 {
		if mayGive(y, bundles, flour) {
			told = append(told, bundles)
		}
	}
	if len(told) == 0 {
		return api.Range{}, api.ErrNone
	}
	return api.Range{Lo: told[0], Hi: told[len(told)-1]}, api.OK
}

// Wants returns how many hours gallons take.
func Wants(gallons, hourly int) (int, api.Errno) {
	if !within(gallons, 0, api.MaxGrain) || !within(hourly, 1, api.MaxGrain) {
		return 0, api.ErrGrain
	}
	return (gallons + hourly - 1) / hourly, api.OK
}

// checkGrain returns ErrYield if a yield is not valid, and otherwise ErrGrain if other arguments are not.
func checkGrain(y api.Yield, valid bool) api.Errno {
	if e := CheckYield(y); e != api.OK {
		return e
	}
	if !valid {
		return api.ErrGrain
	}
	return api.OK
}

// threshed returns the least and the greatest number of gallons of bundles: both numbers that are multiplied are least, or greatest, at once.
func threshed(y api.Yield, bundles api.Range) api.Range {
	return api.Range{Lo: gallonsOf(y.Gallons.Lo, bundles.Lo), Hi: gallonsOf(y.Gallons.Hi, bundles.Hi)}
}

// gallonsOf returns what bundles give by a true yield.
func gallonsOf(yield, bundles int) int { return bundles * yield / 100 }

// flourOf returns how many of some gallons are left beside the toll. Of more gallons it is no less: with each one the toll grows by one at most.
func flourOf(y api.Yield, gallons int) int { return gallons - gallons/y.Toll }

// mayGive reports whether by some true yield bundles give flour in a range. By greater yields it is no less, so that the least one by which it is enough tells; but it may leap over the range, from one yield to the next.
func mayGive(y api.Yield, bundles int, flour api.Range) bool {
	given := func(yield int) int { return flourOf(y, gallonsOf(yield, bundles)) }
	enough := y.Gallons.Lo + sort.Search(y.Gallons.Hi-y.Gallons.Lo+1, func(i int) bool {
		return given(y.Gallons.Lo+i) >= flour.Lo
	})
	return enough <= y.Gallons.Hi && given(enough) <= flour.Hi
}
