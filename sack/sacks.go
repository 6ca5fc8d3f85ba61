package sack

import (
	"cmp"
	"slices"

	"leazing/api"
)

// With returns sacks with one more hoard, at its place by Sources; ErrSacks, ErrHoard, or ErrLong.
func With(s api.Sacks, h api.Hoard) (api.Sacks, api.Errno) {
	if e := Check(s); e != api.OK {
		return api.Sacks{}, e
	}
	place, has := slices.BinarySearchFunc(s.Hoards, h, func(a, b api.Hoard) int { return cmp.Compare(a.Source, b.Source) })
	if has || CheckHoard(h) != api.OK {
		return api.Sacks{}, api.ErrHoard
	}
	if len(s.Hoards) == api.MaxPasses {
		return api.Sacks{}, api.ErrLong
	}
	return api.Sacks{Passes: slices.Clone(s.Passes), Hoards: slices.Insert(slices.Clone(s.Hoards), place, h)}, api.OK
}

// Without returns sacks without the passes that have a certificate; ErrSacks, ErrArg, or ErrNone if there are none.
func Without(s api.Sacks, cert int) (api.Sacks, api.Errno) {
	if e := checkCert(s, cert); e != api.OK {
		return api.Sacks{}, e
	}
	rest := func(p api.Pass) bool { return p.Cert != cert }
	less := filtered(s, rest, func(api.Hoard) bool { return true })
	if len(less.Passes) == len(s.Passes) {
		return api.Sacks{}, api.ErrNone
	}
	return less, api.OK
}

// Dates returns the days on which something becomes known, or ends, rising, each once.
func Dates(s api.Sacks) ([]int, api.Errno) {
	if e := Check(s); e != api.OK {
		return nil, e
	}
	var dates []int
	add := func(n note) {
		dates = append(dates, n.known)
		if n.until != 0 {
			dates = append(dates, n.until)
		}
	}
	for _, p := range s.Passes {
		add(noteOfPass(p))
	}
	for _, h := range s.Hoards {
		add(noteOfHoard(h))
	}
	return rising(dates), api.OK
}

// rising sorts a list of numbers, and leaves each of them once.
func rising(numbers []int) []int {
	slices.Sort(numbers)
	return slices.Compact(numbers)
}

// filtered returns the sacks that have only some of the passes and hoards.
func filtered(s api.Sacks, keepsPass func(api.Pass) bool, keepsHoard func(api.Hoard) bool) api.Sacks {
	var kept api.Sacks
	for _, p := range s.Passes {
		if keepsPass(p) {
			kept.Passes = append(kept.Passes, p)
		}
	}
	for _, h := range s.Hoards {
		if keepsHoard(h) {
			kept.Hoards = append(kept.Hoards, h)
		}
	}
	return kept
}
