package sack

import (
	"slices"

	"leazing/api"
)

// Rests returns the least and the greatest gallons that rest on a certificate; ErrSacks, ErrArg, ErrDay or ErrClash.
func Rests(s api.Sacks, cert, known int) (api.Range, api.Errno) {
	if e := checkCert(s, cert, known); e != api.OK {
		return api.Range{}, e
	}
	return across(s, known, func(p api.Pass) bool { return p.Cert == cert })
}

// Total returns the least and the greatest amount that all families together have at the end of a day; ErrSacks, ErrDay or ErrClash. It is what came to them from outside up to this day, less what went there.
func Total(s api.Sacks, day, known int) (api.Range, api.Errno) {
	if e := checkDays(s, day, known); e != api.OK {
		return api.Range{}, e
	}
	return across(s, known, func(p api.Pass) bool { return p.Day <= day })
}

// across returns the least and the greatest gallons that came from outside by some passes, less what went there by them; ErrClash.
func across(s api.Sacks, known int, isApart func(api.Pass) bool) (api.Range, api.Errno) {
	n, e := filled(lookAt(s, known), isApart)
	if e != api.OK {
		return api.Range{}, e
	}
	return n.ends(n.across), api.OK
}

// Moved returns the families, rising, that may have another amount at the end of a day without a certificate; ErrSacks, ErrArg, ErrDay, or ErrNone if no pass has it.
func Moved(s api.Sacks, cert, day, known int) ([]int, api.Errno) {
	if e := checkCert(s, cert, day, known); e != api.OK {
		return nil, e
	}
	less, e := Without(s, cert)
	if e != api.OK {
		return nil, e
	}
	with, without := answers(s, day, known), answers(less, day, known)
	var families []int
	for _, spot := range spotsOf(s) {
		families = append(families, spot.Family)
	}
	return slices.DeleteFunc(rising(families), func(family int) bool { return with(family) == without(family) }), api.OK
}

// answer is what Have returns.
type answer struct {
	gallons api.Range
	e       api.Errno
}

// answers returns the function that answers what a family has at the end of a day.
func answers(s api.Sacks, day, known int) func(family int) answer {
	n, e := filled(lookAt(s, known), nothing)
	return func(family int) answer {
		if e != api.OK {
			return answer{e: e}
		}
		return answer{gallons: n.ends(n.heldAt(api.Spot{Family: family, Day: day}))}
	}
}
