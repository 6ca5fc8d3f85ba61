package sheaf

import (
	"slices"

	"leazing/api"
)

// Stands returns the plot with one more stand, at its place by Sources.
func Stands(p api.Plot, s api.Stand) (api.Plot, api.Errno) {
	if e := Check(p); e != api.OK {
		return api.Plot{}, e
	}
	if CheckStand(s) != api.OK || hasSource(p, s.Source) {
		return api.Plot{}, api.ErrStand
	}
	if len(p.Stands) == api.MaxLoads {
		return api.Plot{}, api.ErrLong
	}
	with := copyOf(p)
	at := 0
	for at < len(p.Stands) && p.Stands[at].Source < s.Source {
		at++
	}
	with.Stands = slices.Insert(with.Stands, at, s)
	return with, api.OK
}

// Without returns the plot without the load, stand or spell that has the source.
func Without(p api.Plot, source int) (api.Plot, api.Errno) {
	if e := Check(p); e != api.OK {
		return api.Plot{}, e
	}
	if !hasSource(p, source) {
		return api.Plot{}, api.ErrNone
	}
	other := func(n note) bool { return n.source != source }
	return filtered(p, other), api.OK
}

// Dates returns the days on which something becomes known, or ends.
func Dates(p api.Plot) ([]int, api.Errno) {
	if e := Check(p); e != api.OK {
		return nil, e
	}
	var days []int
	for _, n := range notes(p) {
		days = append(days, n.known)
		if n.until != 0 {
			days = append(days, n.until)
		}
	}
	slices.Sort(days)
	return slices.Compact(days), api.OK
}

func copyOf(p api.Plot) api.Plot {
	p.Loads = slices.Clone(p.Loads)
	p.Stands = slices.Clone(p.Stands)
	p.Spells = slices.Clone(p.Spells)
	return p
}

// filtered returns a copy of the plot that has only the loads, stands and spells whose notes are kept.
func filtered(p api.Plot, keep func(note) bool) api.Plot {
	p = copyOf(p)
	p.Loads = slices.DeleteFunc(p.Loads, func(l api.Load) bool { return !keep(noteOfLoad(l)) })
	p.Stands = slices.DeleteFunc(p.Stands, func(s api.Stand) bool { return !keep(noteOfStand(s)) })
	p.Spells = slices.DeleteFunc(p.Spells, func(s api.Spell) bool { return !keep(noteOfSpell(s)) })
	return p
}

// notes returns the notes of all loads, stands and spells.
func notes(p api.Plot) []note {
	all := appendNotes(nil, p.Loads, noteOfLoad)
	all = appendNotes(all, p.Stands, noteOfStand)
	return appendNotes(all, p.Spells, noteOfSpell)
}

func appendNotes[T any](all []note, list []T, noteOf func(T) note) []note {
	for _, x := range list {
		all = append(all, noteOf(x))
	}
	return all
}

func hasSource(p api.Plot, source int) bool {
	return slices.ContainsFunc(notes(p), func(n note) bool { return n.source == source })
}
