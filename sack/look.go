package sack

import (
	"cmp"
	"slices"

	"leazing/api"
)

// plenty stands for no bound above: all lower bounds together are less.
const plenty = 2*api.MaxPasses*api.MaxCorn + 1

// look is valid sacks that are looked at, as known on a day: it has only the passes and hoards that count.
type look struct {
	api.Sacks
	spots []api.Spot // of all of these, rising by family and then by day, each once
	days  []int      // likewise
}

// lookAt returns the look of valid sacks, as known on a day.
func lookAt(s api.Sacks, known int) look {
	return lookOf(filtered(s,
		func(p api.Pass) bool { return noteOfPass(p).counts(known) },
		func(h api.Hoard) bool { return noteOfHoard(h).counts(known) },
	))
}

// lookOf returns the look of sacks of which all passes and hoards count.
func lookOf(s api.Sacks) look {
	l := look{Sacks: s, spots: spotsOf(s)}
	for _, s := range l.spots {
		l.days = append(l.days, s.Day)
	}
	l.days = rising(l.days)
	return l
}

// spotsOf returns the spots of families that passes and hoards name, rising by family and then by day, each once.
func spotsOf(s api.Sacks) []api.Spot {
	var spots []api.Spot
	for _, p := range s.Passes {
		spots = append(spots, from(p), to(p))
	}
	for _, h := range s.Hoards {
		spots = append(spots, spotOf(h))
	}
	spots = slices.DeleteFunc(spots, func(s api.Spot) bool { return s.Family == 0 })
	slices.SortFunc(spots, compareSpots)
	return slices.Compact(spots)
}

// from returns where a pass comes from: a spot, or one of the family 0.
func from(p api.Pass) api.Spot { return api.Spot{Family: p.From, Day: p.Day} }

// to returns where a pass goes, likewise.
func to(p api.Pass) api.Spot { return api.Spot{Family: p.To, Day: p.Day} }

func spotOf(h api.Hoard) api.Spot { return api.Spot{Family: h.Family, Day: h.Day} }

func compareSpots(a, b api.Spot) int {
	return cmp.Or(cmp.Compare(a.Family, b.Family), cmp.Compare(a.Day, b.Day))
}

// bounds returns the bounds of what a family has at the end of a day.
func (l look) bounds(at api.Spot) api.Range {
	bounds := api.Range{Lo: 0, Hi: plenty}
	for _, h := range l.Hoards {
		if spotOf(h) == at {
			bounds = api.Range{Lo: max(bounds.Lo, h.Gallons.Lo), Hi: min(bounds.Hi, h.Gallons.Hi)}
		}
	}
	return bounds
}

// had returns what a family had at the end of a day, if so much passed by each pass.
func (l look) had(flow []int, at api.Spot) int {
	var came, left []int
	for i, p := range l.Passes {
		if p.Day <= at.Day && p.To == at.Family {
			came = append(came, flow[i])
		}
		if p.Day <= at.Day && p.From == at.Family {
			left = append(left, flow[i])
		}
	}
	return sum(came...) - sum(left...)
}

// areTrue reports whether numbers are true gallons. What a family has is another amount only at the end of a day on which something passed.
func (l look) areTrue(flow []int) bool {
	if len(flow) != len(l.Passes) {
		return false
	}
	for i, p := range l.Passes {
		if !within(flow[i], p.Gallons.Lo, p.Gallons.Hi) {
			return false
		}
	}
	for _, s := range l.spots {
		bounds := l.bounds(s)
		if !within(l.had(flow, s), bounds.Lo, bounds.Hi) {
			return false
		}
	}
	return true
}

func sum(numbers ...int) int {
	total := 0
	for _, n := range numbers {
		total += n
	}
	return total
}
