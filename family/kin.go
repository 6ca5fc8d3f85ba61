package family

import (
	"cmp"
	"slices"

	"leazing/api"
)

// Bonded returns the kin with one more bond, at its place by Sources.
func Bonded(k api.Kin, b api.Bond) (api.Kin, api.Errno) {
	if e := Check(k); e != api.OK {
		return api.Kin{}, e
	}
	taken := slices.ContainsFunc(k.Bonds, func(other api.Bond) bool { return other.Source == b.Source })
	if CheckBond(b) != api.OK || taken {
		return api.Kin{}, api.ErrBond
	}
	if len(k.Bonds) == api.MaxStays {
		return api.Kin{}, api.ErrLong
	}
	with := copyOf(k)
	with.Bonds = put(with.Bonds, b, bySource)
	return with, api.OK
}

// Dates returns the days on which something becomes known, or ends.
func Dates(k api.Kin) ([]int, api.Errno) {
	if e := Check(k); e != api.OK {
		return nil, e
	}
	var days []int
	for _, list := range entries(k) {
		for _, e := range list {
			n := e.note()
			days = put(days, n.known, cmp.Compare)
			if n.until != 0 {
				days = put(days, n.until, cmp.Compare)
			}
		}
	}
	return days, api.OK
}

// put puts x at its place in a list in order, unless an equal one is there already.
func put[T any](list []T, x T, compare func(a, b T) int) []T {
	at, found := slices.BinarySearchFunc(list, x, compare)
	if found {
		return list
	}
	return slices.Insert(list, at, x)
}

func bySource(a, b api.Bond) int { return cmp.Compare(a.Source, b.Source) }

func copyOf(k api.Kin) api.Kin {
	return api.Kin{
		Stays:    slices.Clone(k.Stays),
		Bonds:    slices.Clone(k.Bonds),
		Aways:    slices.Clone(k.Aways),
		Offences: slices.Clone(k.Offences),
	}
}

// without returns the kin without all that has a source.
func without(k api.Kin, source int) api.Kin {
	k = copyOf(k)
	k.Stays = slices.DeleteFunc(k.Stays, func(s api.Stay) bool { return s.Source == source })
	k.Bonds = slices.DeleteFunc(k.Bonds, func(b api.Bond) bool { return b.Source == source })
	k.Aways = slices.DeleteFunc(k.Aways, func(a api.Away) bool { return a.Source == source })
	k.Offences = slices.DeleteFunc(k.Offences, func(o api.Offence) bool { return o.Source == source })
	return k
}

func hasSource(k api.Kin, source int) bool {
	for _, list := range entries(k) {
		if slices.ContainsFunc(list, func(e entry) bool { return e.note().source == source }) {
			return true
		}
	}
	return false
}

// persons returns the persons of all stays, rising.
func persons(k api.Kin) []int {
	var list []int
	for _, s := range k.Stays {
		list = put(list, s.Person, cmp.Compare)
	}
	return list
}
