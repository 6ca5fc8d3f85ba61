package sheaf_test

import (
	"math/rand"
	"slices"

	"leazing/api"
)

// This file finds true numbers by trying all of them, straight from the chapter's definitions, for small plots.

const never = 100000

func counts(known, until, day int) bool {
	return known <= day && (until == 0 || until > day)
}

func countingLoads(p api.Plot, day int) []api.Load {
	ended := func(l api.Load) bool { return !counts(l.Known, l.Until, day) }
	return slices.DeleteFunc(slices.Clone(p.Loads), ended)
}

func countingStands(p api.Plot, day int) []api.Stand {
	ended := func(s api.Stand) bool { return !counts(s.Known, s.Until, day) }
	return slices.DeleteFunc(slices.Clone(p.Stands), ended)
}

func within(n int, r api.Range) bool { return r.Lo <= n && n <= r.Hi }

// leftBy returns what stood after the loads of an hour.
func leftBy(p api.Plot, c api.Carting, hour, day int) int {
	left := c.Sown
	for i, l := range countingLoads(p, day) {
		if l.Hour <= hour {
			left -= c.Loads[i]
		}
	}
	return left
}

// truths returns all true numbers by the loads and stands with the sources of by; nil: by all.
func truths(p api.Plot, day int, by []int) []api.Carting {
	loads := countingLoads(p, day)
	for i, l := range loads {
		if by != nil && !slices.Contains(by, l.Source) {
			loads[i].Sheaves = api.Range{Lo: 0, Hi: p.Sown.Hi} // more could not be carted
		}
	}
	var found []api.Carting
	numbers := make([]int, len(loads))
	var try func(sown, i, sum int)
	try = func(sown, i, sum int) {
		if i == len(loads) {
			c := api.Carting{Sown: sown, Loads: slices.Clone(numbers)}
			if sum <= sown && standsAgree(p, c, day, by) {
				found = append(found, c)
			}
			return
		}
		for n := loads[i].Sheaves.Lo; n <= loads[i].Sheaves.Hi; n++ {
			numbers[i] = n
			try(sown, i+1, sum+n)
		}
	}
	for sown := p.Sown.Lo; sown <= p.Sown.Hi; sown++ {
		try(sown, 0, 0)
	}
	return found
}

func standsAgree(p api.Plot, c api.Carting, day int, by []int) bool {
	for _, s := range countingStands(p, day) {
		if by != nil && !slices.Contains(by, s.Source) {
			continue
		}
		if !within(leftBy(p, c, s.Hour, day), s.Sheaves) {
			return false
		}
	}
	return true
}

// contradict tells whether loads and stands that count contradict each other.
func contradict(p api.Plot, day int, by []int) bool {
	if len(truths(p, day, by)) > 0 {
		return false
	}
	for i := range by {
		rest := append([]int{}, by[:i]...)
		rest = append(rest, by[i+1:]...)
		if len(truths(p, day, rest)) == 0 {
			return false
		}
	}
	return true
}

// clearFrom returns the first hour at which the field is clear by true numbers.
func clearFrom(p api.Plot, c api.Carting, day int) int {
	if c.Sown == 0 {
		return 0
	}
	from := never
	for _, l := range countingLoads(p, day) {
		if l.Hour < from && leftBy(p, c, l.Hour, day) == 0 {
			from = l.Hour
		}
	}
	return from
}

func isShut(p api.Plot, hour, day int) bool {
	if hour%24 < 8 || hour%24 >= 19 {
		return true
	}
	for _, s := range p.Spells {
		if counts(s.Known, s.Until, day) && s.From <= hour && hour <= s.To {
			return true
		}
	}
	return false
}

func isOpen(p api.Plot, c api.Carting, hour, day int) bool {
	if leftBy(p, c, hour, day) != 0 || isShut(p, hour, day) {
		return false
	}
	return p.Geese == 0 || hour < clearFrom(p, c, day)+24*p.Geese
}

// asAnswer tells what is so by all, by none, or by some of the true numbers.
func asAnswer(all []api.Carting, is func(api.Carting) bool) int {
	n := 0
	for _, c := range all {
		if is(c) {
			n++
		}
	}
	switch n {
	case 0:
		return api.No
	case len(all):
		return api.Yes
	}
	return api.Maybe
}

func span(all []api.Carting, number func(api.Carting) int) api.Range {
	r := api.Range{Lo: number(all[0]), Hi: number(all[0])}
	for _, c := range all {
		r.Lo, r.Hi = min(r.Lo, number(c)), max(r.Hi, number(c))
	}
	return r
}

// hoursTried are all hours of random plots, those beside them, and others of a day.
var hoursTried = []int{0, 7, 8, 9, 11, 12, 13, 18, 19, 29, 30, 31, 34, 35, 36, 37, 54, 57, 58, 59, 60, 61, 82, 83, 84, 85, 106, 107, 130, 99999}

const lastDay = 4 // of random plots

// randomPlots returns small plots: always the same ones.
func randomPlots(n int) []api.Plot {
	r := rand.New(rand.NewSource(1))
	plots := make([]api.Plot, n)
	for i := range plots {
		plots[i] = randomPlot(r)
	}
	return plots
}

func randomPlot(r *rand.Rand) api.Plot {
	hours := []int{0, 12, 30, 35, 36, 58, 60, 84}
	hour := func() int { return hours[r.Intn(len(hours))] }
	sheaves := func(most int) api.Range {
		lo := r.Intn(most + 1)
		if r.Intn(2) == 0 {
			lo = 0
		}
		return api.Range{Lo: lo, Hi: lo + r.Intn(3)}
	}
	times := func() (int, int) {
		known := max(0, r.Intn(lastDay+3)-3)
		if r.Intn(4) > 0 {
			return known, 0
		}
		return known, known + 1 + r.Intn(3)
	}
	sources := r.Perm(20)
	next := func() int {
		s := sources[0] + 1
		sources = sources[1:]
		return s
	}
	p := api.Plot{Sown: sheaves(4), Geese: r.Intn(3)}
	for range r.Intn(5) {
		known, until := times()
		p.Loads = append(p.Loads, api.Load{Source: next(), Hour: hour(), Sheaves: sheaves(2), Known: known, Until: until})
	}
	for range r.Intn(4) {
		known, until := times()
		p.Stands = append(p.Stands, api.Stand{Source: next(), Hour: hour(), Sheaves: sheaves(3), Known: known, Until: until})
	}
	for range r.Intn(3) {
		known, until := times()
		from := hour()
		p.Spells = append(p.Spells, api.Spell{Source: next(), Kind: 1 + r.Intn(2), From: from, To: from + r.Intn(4), Known: known, Until: until})
	}
	slices.SortFunc(p.Loads, func(a, b api.Load) int { return a.Source - b.Source })
	slices.SortFunc(p.Stands, func(a, b api.Stand) int { return a.Source - b.Source })
	slices.SortFunc(p.Spells, func(a, b api.Spell) int { return a.Source - b.Source })
	return p
}

func clone(p api.Plot) api.Plot {
	p.Loads, p.Stands, p.Spells = slices.Clone(p.Loads), slices.Clone(p.Stands), slices.Clone(p.Spells)
	return p
}

func equal(p, q api.Plot) bool {
	return p.Sown == q.Sown && p.Geese == q.Geese && slices.Equal(p.Loads, q.Loads) && slices.Equal(p.Stands, q.Stands) && slices.Equal(p.Spells, q.Spells)
}
