package relief_test

import (
	"math/rand"
	"slices"
	"testing"

	"leazing/api"
	"leazing/relief"
)

// The definitions of the chapter, each as directly as it can be, and small reliefs whose true gallons are all gone through.

const weeks = 596

// knownOf returns what of a relief counts, as known on a day.
func knownOf(r api.Relief, day int) api.Relief {
	late := func(known, until int) bool { return known > day || until != 0 && until <= day }
	return api.Relief{
		Scales:   r.Scales,
		Needs:    slices.DeleteFunc(slices.Clone(r.Needs), func(n api.Need) bool { return late(n.Known, n.Until) }),
		Crops:    slices.DeleteFunc(slices.Clone(r.Crops), func(c api.Crop) bool { return late(c.Known, c.Until) }),
		Findings: slices.DeleteFunc(slices.Clone(r.Findings), func(f api.Finding) bool { return late(f.Known, f.Until) }),
		Mades:    slices.DeleteFunc(slices.Clone(r.Mades), func(m api.Made) bool { return late(m.Known, m.Until) }),
	}
}

// without returns a relief without the entry that has a source.
func without(r api.Relief, source int) api.Relief {
	return api.Relief{
		Scales:   r.Scales,
		Needs:    slices.DeleteFunc(slices.Clone(r.Needs), func(n api.Need) bool { return n.Source == source }),
		Crops:    slices.DeleteFunc(slices.Clone(r.Crops), func(c api.Crop) bool { return c.Source == source }),
		Findings: slices.DeleteFunc(slices.Clone(r.Findings), func(f api.Finding) bool { return f.Source == source }),
		Mades:    slices.DeleteFunc(slices.Clone(r.Mades), func(m api.Made) bool { return m.Source == source }),
	}
}

// named returns the families that a relief names, rising.
func named(r api.Relief) []int {
	var all []int
	for _, n := range r.Needs {
		all = append(all, n.Family)
	}
	for _, c := range r.Crops {
		all = append(all, c.Family)
	}
	for _, f := range r.Findings {
		all = append(all, f.Family)
	}
	for _, m := range r.Mades {
		all = append(all, m.Family)
	}
	return rising(all)
}

func rising(l []int) []int {
	slices.Sort(l)
	return slices.Compact(l)
}

// tale is what a relief tells of a family, as known on a day.
type tale struct {
	wants []int      // what it needs in each week
	crops []api.Crop // those that count for relief
	lost  []api.Crop // those that a finding covers
	owed  int
}

func taleOf(r api.Relief, family, known int) tale {
	k := knownOf(r, known)
	x := tale{wants: make([]int, weeks)}
	bread := make([]int, weeks)
	for _, s := range k.Scales {
		for week := s.From; week < weeks; week++ {
			bread[week] = s.Bread
		}
	}
	for _, n := range k.Needs {
		if n.Family == family {
			x.wants[n.Week] += n.Heads * bread[n.Week]
		}
	}
	for _, c := range k.Crops {
		covered := false
		for _, f := range k.Findings {
			covered = covered || f.Family == family && f.From <= c.Week && c.Week <= f.To
		}
		if c.Family == family && covered {
			x.lost = append(x.lost, c)
			x.owed += c.Gallons.Lo
		} else if c.Family == family {
			x.crops = append(x.crops, c)
		}
	}
	for _, m := range k.Mades {
		if m.Family == family {
			x.owed = x.owed - m.Gallons
		}
	}
	if x.owed < 0 {
		x.owed = 0
	}
	return x
}

// by returns what the family is to be given in each week by true gallons, and what is carried from it.
func (x tale) by(gallons []int) (given, carried []int) {
	given, carried = make([]int, weeks), make([]int, weeks)
	has := make([]int, weeks+1)
	for i, c := range x.crops {
		has[c.Week] += gallons[i]
	}
	for week := range weeks {
		if has[week] < x.wants[week] {
			given[week] = x.wants[week] - has[week]
		} else {
			carried[week] = has[week] - x.wants[week]
		}
		has[week+1] += carried[week]
	}
	return given, carried
}

// around returns all lists of numbers from so much below the least gallons to so much above the greatest ones.
func (x tale) around(by int) [][]int {
	lists := [][]int{nil}
	for _, c := range x.crops {
		var longer [][]int
		for _, l := range lists {
			for n := c.Gallons.Lo - by; n <= c.Gallons.Hi+by; n++ {
				longer = append(longer, append(slices.Clone(l), n))
			}
		}
		lists = longer
	}
	return lists
}

// areTrue tells whether numbers are true gallons.
func (x tale) areTrue(gallons []int) bool {
	if len(gallons) != len(x.crops) {
		return false
	}
	for i, c := range x.crops {
		if gallons[i] < c.Gallons.Lo || c.Gallons.Hi < gallons[i] {
			return false
		}
	}
	return true
}

// least and most return the true gallons all of which are the least ones, and the greatest ones.
func (x tale) least() []int {
	var l []int
	for _, c := range x.crops {
		l = append(l, c.Gallons.Lo)
	}
	return l
}

func (x tale) most() []int {
	var l []int
	for _, c := range x.crops {
		l = append(l, c.Gallons.Hi)
	}
	return l
}

// some returns some true gallons.
func (x tale) some(r *rand.Rand) []int {
	var l []int
	for _, c := range x.crops {
		l = append(l, c.Gallons.Lo+r.Intn(c.Gallons.Hi-c.Gallons.Lo+1))
	}
	return l
}

func (x tale) sources() []int {
	var l []int
	for _, c := range x.crops {
		l = append(l, c.Source)
	}
	return l
}

// bounds returns the bounds of what the family is to be given in each week, and of what is carried from it, by all of some true gallons.
func (x tale) bounds(truths [][]int) (given, carried []api.Range) {
	given, carried = make([]api.Range, weeks), make([]api.Range, weeks)
	for i, gallons := range truths {
		g, c := x.by(gallons)
		for week := range weeks {
			if i == 0 {
				given[week], carried[week] = span(g[week], g[week]), span(c[week], c[week])
			}
			given[week] = span(min(given[week].Lo, g[week]), max(given[week].Hi, g[week]))
			carried[week] = span(min(carried[week].Lo, c[week]), max(carried[week].Hi, c[week]))
		}
	}
	return given, carried
}

// standing returns the account by bounds of what is to be given.
func (x tale) standing(given []api.Range, known int) api.Account {
	a := account(0, x.owed)
	for week := 0; 7*week <= known && week < weeks; week++ {
		a.Bread += given[week].Hi
	}
	return a
}

// stands returns the account of a family, as known on a day; P7.2 says by which gallons.
func stands(r api.Relief, family, known int) api.Account {
	x := taleOf(r, family, known)
	given, _ := x.bounds([][]int{x.least()})
	return x.standing(given, known)
}

// postsOf returns the postings of days.
func postsOf(r api.Relief, days []int) []api.Posting {
	var l []api.Posting
	for i, day := range days {
		for _, family := range named(r) {
			a, b := stands(r, family, day), api.Account{}
			if i > 0 {
				b = stands(r, family, days[i-1])
			}
			if a != b {
				l = append(l, post(day, family, a.Bread-b.Bread, a.Owed-b.Owed))
			}
		}
	}
	return l
}

// TestOracle: P7.1 and P7.2: what is said of small reliefs, by all their true gallons.
func TestOracle(t *testing.T) {
	uncertain, carried := 0, 0
	check := func(r *rand.Rand, of api.Relief) {
		for range 2 {
			known := day(t, r, of)
			for _, family := range someFamilies(of) {
				x := taleOf(of, family, known)
				given, left := x.bounds(x.around(0))
				for _, week := range someWeeks(r) {
					want(t, of, x.wants[week], api.OK)(relief.Wants(of, family, week, known))
					want(t, of, given[week], api.OK)(relief.Bread(of, family, week, known))
					want(t, of, left[week], api.OK)(relief.Carried(of, family, week, known))
					if given[week].Lo < given[week].Hi {
						uncertain++
					}
					if left[week].Hi > 0 {
						carried++
					}
				}
				wantList(t, of, x.sources(), api.OK)(relief.Counted(of, family, known))
				want(t, of, x.owed, api.OK)(relief.Owed(of, family, known))
				want(t, of, x.standing(given, known), api.OK)(relief.Stands(of, family, known))
			}
		}
	}
	reliefs(10, 4000, tiny, check)
	reliefs(11, 1000, small, check)
	if min(uncertain, carried) < 500 {
		t.Error("uncertain:", uncertain, "carried:", carried)
	}
}

// TestTrueGallons: P7.1 and P7.2: all lists of numbers about the true gallons of small reliefs: those that are none are refused, and what is to be given by others is within Bread.
func TestTrueGallons(t *testing.T) {
	accepted, refused := 0, 0
	check := func(r *rand.Rand, of api.Relief) {
		known := day(t, r, of)
		for _, family := range named(of) {
			x := taleOf(of, family, known)
			week := r.Intn(4)
			bread := must[api.Range](t, of)(relief.Bread(of, family, week, known))
			for _, gallons := range x.around(1) {
				if !x.areTrue(gallons) {
					wantError(t, of, api.ErrCrops, relief.CheckCrops(of, family, known, gallons))
					want(t, of, 0, api.ErrCrops)(relief.Truly(of, family, week, known, gallons))
					refused++
					continue
				}
				given, _ := x.by(gallons)
				wantError(t, of, api.OK, relief.CheckCrops(of, family, known, gallons))
				want(t, of, given[week], api.OK)(relief.Truly(of, family, week, known, gallons))
				if given[week] < bread.Lo || bread.Hi < given[week] {
					t.Errorf("%+v: %d is not within %v", of, given[week], bread)
				}
				accepted++
			}
			least := x.least()
			for _, wrong := range [][]int{append(slices.Clone(least), 0), append(list(0), least...), least[:max(1, len(least))-1]} {
				is := verdict(len(wrong) == len(least), api.ErrCrops)
				wantError(t, of, is, relief.CheckCrops(of, family, known, wrong))
			}
		}
	}
	reliefs(12, 2000, tiny, check)
	if min(accepted, refused) < 3000 {
		t.Error("accepted:", accepted, "refused:", refused)
	}
}
