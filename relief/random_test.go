package relief_test

import (
	"math/rand"
	"slices"
	"testing"

	"leazing/api"
	"leazing/relief"
)

// Random reliefs.

// size says how great random reliefs are at most.
type size struct{ scales, entries, families, weeks, bread, mouths, gallons, width int }

var (
	tiny  = size{2, 4, 1, 2, 3, 2, 6, 3}
	small = size{4, 5, 2, 4, 5, 3, 20, 3}
	dense = size{10, 60, 3, 9, 100, 20, 3000, 1000}
	great = size{10, 60, 99, 595, 100, 20, 100000, 100000}
)

// spread returns one of some numbers, in places from 0 to most: the first and the last one among them.
func spread(r *rand.Rand, of, most int) int {
	n := r.Intn(of + 1)
	if of == most || n < of {
		return n
	}
	return most
}

// many returns how many there are, of at most so many: none and all of them often.
func many(r *rand.Rand, most int) int {
	switch r.Intn(6) {
	case 0:
		return 0
	case 1, 2:
		return most
	}
	return r.Intn(most + 1)
}

// random returns a random relief.
func random(r *rand.Rand, most size) api.Relief {
	of := api.Relief{Scales: scales(r, most)}
	var kinds []int
	for kind := range 4 {
		n := many(r, most.entries)
		if kind >= 2 && r.Intn(3) > 0 { // else nearly all crops are covered, and all is made good
			n = min(n, r.Intn(4))
		}
		kinds = append(kinds, slices.Repeat(list(kind), n)...)
	}
	r.Shuffle(len(kinds), func(i, j int) { kinds[i], kinds[j] = kinds[j], kinds[i] })
	source := 0
	for i, kind := range kinds {
		source += 1 + r.Intn(3)
		if i == len(kinds)-1 && r.Intn(4) == 0 {
			source = 99999
		}
		of = grown(r, of, most, kind, source)
	}
	return of
}

// grown returns a relief with one more entry, of a kind from 0 to 3.
func grown(r *rand.Rand, of api.Relief, most size, kind, source int) api.Relief {
	family, week := 1+spread(r, most.families-1, 98), spread(r, most.weeks, 595)
	known, until := times(r, most)
	switch kind {
	case 0:
		of.Needs = append(of.Needs, api.Need{Source: source, Family: family, Week: week, Heads: max(r.Intn(most.mouths+1), r.Intn(most.mouths+1)), Known: known, Until: until})
	case 1:
		of.Crops = append(of.Crops, api.Crop{Source: source, Family: family, Week: week, Gallons: gallons(r, most), Known: known, Until: until})
	case 2:
		to := week
		if r.Intn(2) == 0 {
			to = max(to, spread(r, most.weeks, 595))
		}
		of.Findings = append(of.Findings, api.Finding{Source: source, Family: family, From: week, To: to, Known: known, Until: until})
	default:
		of.Mades = append(of.Mades, api.Made{Source: source, Family: family, Gallons: 1 + r.Intn(most.gallons), Known: known, Until: until})
	}
	return of
}

// scales returns random ones.
func scales(r *rand.Rand, most size) []api.Scale {
	var froms []int
	for range many(r, most.scales) {
		froms = append(froms, spread(r, most.weeks, 595)*r.Intn(2))
	}
	var l []api.Scale
	for _, from := range rising(froms) {
		l = append(l, api.Scale{From: from, Bread: max(r.Intn(most.bread+1), r.Intn(most.bread+1))})
	}
	return l
}

// gallons returns random ones: often just one number, or with an end at a limit.
func gallons(r *rand.Rand, most size) api.Range {
	n := r.Intn(most.gallons+1) / (1 + r.Intn(6))
	lo, hi := max(0, n-r.Intn(most.width+1)), min(100000, n+r.Intn(most.width+1))
	return []api.Range{span(n, n), span(lo, n), span(n, hi), span(lo, hi), span(0, min(n, most.width)), span(most.gallons, most.gallons)}[r.Intn(6)]
}

// times returns random ones: often those of what always counts, and some at the last days.
func times(r *rand.Rand, most size) (known, until int) {
	switch r.Intn(9) {
	case 0, 1, 2, 3, 4:
		return 0, 0
	case 5:
		known = 4166 - r.Intn(9)
	default:
		known = r.Intn(min(4167, 7*(most.weeks+2)))
	}
	if r.Intn(3) == 0 && known < 4166 {
		until = min(4166, known+1+r.Intn(9))
	}
	return known, until
}

// reliefs calls try with random reliefs.
func reliefs(seed int64, n int, most size, try func(r *rand.Rand, of api.Relief)) {
	r := rand.New(rand.NewSource(seed))
	for range n {
		try(r, random(r, most))
	}
}

// day returns a day as known: often one on which something of a relief begins or ends, or the one before it.
func day(t *testing.T, r *rand.Rand, of api.Relief) int {
	t.Helper()
	dates := must[[]int](t, of)(relief.Dates(of))
	switch n := len(dates); {
	case n > 0 && r.Intn(4) > 0:
		return max(0, dates[r.Intn(n)]-r.Intn(2))
	case r.Intn(3) == 0:
		return 4166
	case r.Intn(2) == 0:
		return r.Intn(4167)
	}
	return r.Intn(30)
}

// someDays returns days of postings, of which there may be none; the first and the last one that can be are often among them.
func someDays(t *testing.T, r *rand.Rand, of api.Relief) []int {
	t.Helper()
	var days []int
	for range many(r, 12) {
		days = append(days, day(t, r, of))
	}
	if r.Intn(3) == 0 {
		days = append(days, 0)
	}
	if r.Intn(3) == 0 {
		days = append(days, 4166)
	}
	days = rising(days)
	return days[:min(12, len(days))]
}

// someFamilies returns those that a relief names, and others.
func someFamilies(of api.Relief) []int { return rising(append(named(of), 1, 50, 99)) }

// someWeeks returns those about which small reliefs tell, and others.
func someWeeks(r *rand.Rand) []int { return list(0, 1, 2, 3, 4, 5, r.Intn(596), 594, 595) }

// TestRandom: that random reliefs are valid, and tell enough.
func TestRandom(t *testing.T) {
	for i, most := range []size{tiny, small, dense, great} {
		given, carried, uncertain, owed, lost, made := 0, 0, 0, 0, 0, 0
		count := func(is bool, n *int) {
			if is {
				*n++
			}
		}
		reliefs(int64(i), 300, most, func(r *rand.Rand, of api.Relief) {
			wantError(t, of, api.OK, relief.Check(of))
			known := day(t, r, of)
			for _, family := range named(of) {
				x := taleOf(of, family, known)
				least, some := x.by(x.least())
				most, _ := x.by(x.most())
				count(slices.Max(least) > 0, &given)
				count(slices.Max(some) > 0, &carried)
				count(!slices.Equal(least, most), &uncertain)
				count(x.owed > 0, &owed)
				count(len(x.lost) > 0, &lost)
				count(len(x.lost) > 0 && x.owed == 0, &made)
			}
		})
		if min(given, carried, uncertain, owed, lost) < 20 || made < 10 {
			t.Error(most, "given:", given, "carried:", carried, "uncertain:", uncertain, "owed:", owed, "lost:", lost, "all made good:", made)
		}
	}
}
