package relief_test

import (
	"math"
	"slices"
	"testing"

	"leazing/api"
	"leazing/relief"
)

// P7.1: what is valid, each limit at its edge and beyond it.

// edges calls try with numbers around the limits of a range, and whether they are within it.
func edges(lo, hi int, try func(n int, valid bool)) {
	for _, n := range list(math.MinInt, -hi, lo-1, lo, lo+1, hi-1, hi, hi+1, math.MaxInt) {
		try(n, lo <= n && n <= hi)
	}
}

// verdict returns OK if something is valid, and otherwise an error.
func verdict(valid bool, wrong api.Errno) api.Errno {
	if valid {
		return api.OK
	}
	return wrong
}

func aScale() api.Scale { return api.Scale{From: 100, Bread: 50} }

func aNeed() api.Need {
	return api.Need{Source: 500, Family: 9, Week: 100, Heads: 10, Known: 40, Until: 50}
}

func aCrop() api.Crop {
	return api.Crop{Source: 500, Family: 9, Week: 100, Gallons: span(200, 300), Known: 40, Until: 50}
}

func aFinding() api.Finding {
	return api.Finding{Source: 500, Family: 9, From: 100, To: 200, Known: 40, Until: 50}
}

func aMade() api.Made {
	return api.Made{Source: 500, Family: 9, Gallons: 100, Known: 40, Until: 50}
}

// checkIn wants a relief to be valid, or not, by all functions that take one.
func checkIn(t *testing.T, r api.Relief, valid bool) {
	t.Helper()
	wantError(t, r, verdict(valid, api.ErrRelief), relief.Check(r))
	_, e := relief.Families(r, 45)
	wantError(t, r, verdict(valid, api.ErrRelief), e)
	_, e = relief.Stands(r, 9, 45)
	wantError(t, r, verdict(valid, api.ErrRelief), e)
}

func checkScale(t *testing.T, s api.Scale, valid bool) {
	t.Helper()
	wantError(t, s, verdict(valid, api.ErrScale), relief.CheckScale(s))
	r := example()
	r.Scales = append(r.Scales, s)
	checkIn(t, r, valid && s.From > 3)
	r.Scales = []api.Scale{s}
	checkIn(t, r, valid)
}

func TestCheckScale(t *testing.T) {
	checkScale(t, aScale(), true)
	checkScale(t, api.Scale{}, true)
	edges(0, 595, func(n int, valid bool) { checkScale(t, api.Scale{From: n, Bread: 50}, valid) })
	edges(0, 100, func(n int, valid bool) { checkScale(t, api.Scale{From: 100, Bread: n}, valid) })
}

// checkNeed wants a need to be valid, or not, alone and among others.
func checkNeed(t *testing.T, change func(n *api.Need), valid bool) {
	t.Helper()
	n := aNeed()
	change(&n)
	wantError(t, n, verdict(valid, api.ErrNeed), relief.CheckNeed(n))
	r := example()
	r.Needs = append(r.Needs, n)
	checkIn(t, r, valid && n.Source > 4)
	checkIn(t, api.Relief{Needs: []api.Need{n}}, valid)
}

func TestCheckNeed(t *testing.T) {
	checkNeed(t, func(n *api.Need) {}, true)
	edges(1, 99999, func(x int, valid bool) { checkNeed(t, func(n *api.Need) { n.Source = x }, valid) })
	edges(1, 99, func(x int, valid bool) { checkNeed(t, func(n *api.Need) { n.Family = x }, valid) })
	edges(0, 595, func(x int, valid bool) { checkNeed(t, func(n *api.Need) { n.Week = x }, valid) })
	edges(0, 20, func(x int, valid bool) { checkNeed(t, func(n *api.Need) { n.Heads = x }, valid) })
	checkTimes(func(known, until int, valid bool) {
		checkNeed(t, func(n *api.Need) { n.Known, n.Until = known, until }, valid)
	})
}

// checkCrop wants a crop to be valid, or not, alone and among others.
func checkCrop(t *testing.T, change func(c *api.Crop), valid bool) {
	t.Helper()
	c := aCrop()
	change(&c)
	wantError(t, c, verdict(valid, api.ErrCrop), relief.CheckCrop(c))
	r := example()
	r.Crops = append(r.Crops, c)
	checkIn(t, r, valid && c.Source > 12)
	checkIn(t, api.Relief{Crops: []api.Crop{c}}, valid)
}

func TestCheckCrop(t *testing.T) {
	checkCrop(t, func(c *api.Crop) {}, true)
	edges(13, 99999, func(n int, valid bool) { // without the sources of others in the example
		checkCrop(t, func(c *api.Crop) { c.Source = n }, valid || n == 12)
	})
	edges(1, 99, func(n int, valid bool) { checkCrop(t, func(c *api.Crop) { c.Family = n }, valid) })
	edges(0, 595, func(n int, valid bool) { checkCrop(t, func(c *api.Crop) { c.Week = n }, valid) })
	for _, n := range list(0, 1, 50000, 99999, 100000) {
		edges(n, 100000, func(hi int, valid bool) { checkCrop(t, func(c *api.Crop) { c.Gallons = span(n, hi) }, valid) })
		edges(0, n, func(lo int, valid bool) { checkCrop(t, func(c *api.Crop) { c.Gallons = span(lo, n) }, valid) })
	}
	for _, wrong := range []api.Range{span(100001, 100001), span(-1, -1), span(math.MaxInt, math.MinInt), span(math.MinInt, math.MaxInt)} {
		checkCrop(t, func(c *api.Crop) { c.Gallons = wrong }, false)
	}
	checkTimes(func(known, until int, valid bool) {
		checkCrop(t, func(c *api.Crop) { c.Known, c.Until = known, until }, valid)
	})
	for _, n := range list(0, -1, 1, 100000) {
		wantError(t, n, verdict(n == 1, api.ErrCrop), relief.CheckCrop(api.Crop{Source: n, Family: 1}))
	}
}

// checkFinding wants a finding to be valid, or not, alone and among others.
func checkFinding(t *testing.T, change func(f *api.Finding), valid bool) {
	t.Helper()
	f := aFinding()
	change(&f)
	wantError(t, f, verdict(valid, api.ErrFinding), relief.CheckFinding(f))
	r := example()
	r.Findings = append(r.Findings, f)
	checkIn(t, r, valid && f.Source > 21)
	checkIn(t, api.Relief{Findings: []api.Finding{f}}, valid)
	_, e := relief.Found(api.Relief{}, f)
	wantError(t, f, verdict(valid, api.ErrFinding), e)
}

func TestCheckFinding(t *testing.T) {
	checkFinding(t, func(f *api.Finding) {}, true)
	edges(22, 99999, func(n int, valid bool) {
		checkFinding(t, func(f *api.Finding) { f.Source = n }, valid || n == 21)
	})
	edges(1, 99, func(n int, valid bool) { checkFinding(t, func(f *api.Finding) { f.Family = n }, valid) })
	for _, n := range list(0, 1, 300, 594, 595) {
		edges(n, 595, func(to int, valid bool) { checkFinding(t, func(f *api.Finding) { f.From, f.To = n, to }, valid) })
		edges(0, n, func(from int, valid bool) { checkFinding(t, func(f *api.Finding) { f.From, f.To = from, n }, valid) })
	}
	checkFinding(t, func(f *api.Finding) { f.From, f.To = 596, 596 }, false)
	checkFinding(t, func(f *api.Finding) { f.From, f.To = -1, -1 }, false)
	checkTimes(func(known, until int, valid bool) {
		checkFinding(t, func(f *api.Finding) { f.Known, f.Until = known, until }, valid)
	})
	for _, n := range list(0, -1, 1, 100000) {
		wantError(t, n, verdict(n == 1, api.ErrFinding), relief.CheckFinding(api.Finding{Source: n, Family: 1}))
	}
}

// checkMade wants what was made good to be valid, or not, alone and among others.
func checkMade(t *testing.T, change func(m *api.Made), valid bool) {
	t.Helper()
	m := aMade()
	change(&m)
	wantError(t, m, verdict(valid, api.ErrMade), relief.CheckMade(m))
	r := example()
	r.Mades = append(r.Mades, m)
	checkIn(t, r, valid && m.Source > 31)
	checkIn(t, api.Relief{Mades: []api.Made{m}}, valid)
}

func TestCheckMade(t *testing.T) {
	checkMade(t, func(m *api.Made) {}, true)
	edges(32, 99999, func(n int, valid bool) {
		checkMade(t, func(m *api.Made) { m.Source = n }, valid || n == 31)
	})
	edges(1, 99, func(n int, valid bool) { checkMade(t, func(m *api.Made) { m.Family = n }, valid) })
	edges(1, 100000, func(n int, valid bool) { checkMade(t, func(m *api.Made) { m.Gallons = n }, valid) })
	checkTimes(func(known, until int, valid bool) {
		checkMade(t, func(m *api.Made) { m.Known, m.Until = known, until }, valid)
	})
	for _, n := range list(0, -1, 1, 100000) {
		wantError(t, n, verdict(n == 1, api.ErrMade), relief.CheckMade(api.Made{Source: n, Family: 1, Gallons: 1}))
	}
}

// checkTimes calls check with times around the valid ones.
func checkTimes(check func(known, until int, valid bool)) {
	edges(0, 4166, func(n int, valid bool) {
		check(n, 0, valid)
		check(0, n, valid)
		check(n, 4166, valid && n < 4166)
		check(n, n, valid && n == 0)
	})
	for _, n := range list(0, 1, 40, 4164, 4165) {
		check(n, n+1, true)
		check(n+1, n, n == 0)
	}
	check(4166, 4167, false)
	check(math.MinInt, math.MaxInt, false)
}

// longest returns a relief with n scales, and n entries of each kind, of many families and weeks.
func longest(n int) api.Relief {
	var r api.Relief
	for i := range n {
		r.Scales = append(r.Scales, api.Scale{From: 9 * i, Bread: i % 101})
		r.Needs = append(r.Needs, api.Need{Source: 1001 + i, Family: 1 + i, Week: 9 * i, Heads: i % 21})
		r.Crops = append(r.Crops, api.Crop{Source: 2001 + i, Family: 1 + i, Week: 9 * i, Gallons: span(i, 9*i)})
		r.Findings = append(r.Findings, api.Finding{Source: 3001 + i, Family: 1 + i, From: 0, To: 9 * i})
		r.Mades = append(r.Mades, api.Made{Source: 4001 + i, Family: 1 + i, Gallons: 1 + i})
	}
	return r
}

func TestCheckLong(t *testing.T) {
	for n := 8; n <= 12; n++ {
		checkIn(t, api.Relief{Scales: longest(n).Scales}, n <= 10)
		checkIn(t, longest(n), n <= 10)
	}
	for n := 58; n <= 62; n++ {
		r := longest(n)
		checkIn(t, api.Relief{Needs: r.Needs}, n <= 60)
		checkIn(t, api.Relief{Crops: r.Crops}, n <= 60)
		checkIn(t, api.Relief{Findings: r.Findings}, n <= 60)
		checkIn(t, api.Relief{Mades: r.Mades}, n <= 60)
		r.Scales = r.Scales[:10]
		checkIn(t, r, n <= 60)
		r.Needs, r.Crops = nil, r.Crops[:58]
		checkIn(t, r, n <= 60)
	}
	checkIn(t, api.Relief{Scales: make([]api.Scale, 1000000)}, false)
	checkIn(t, api.Relief{Needs: make([]api.Need, 1000000)}, false)
	checkIn(t, api.Relief{}, true)
}

// TestOrder: the Froms of scales, and the Sources of each kind, are strictly increasing.
func TestOrder(t *testing.T) {
	for i := range 9 {
		for _, step := range list(-1, 0, 1) {
			r := longest(10)
			r.Scales[i+1].From = r.Scales[i].From + step
			checkIn(t, r, step > 0)
			r = longest(10)
			r.Needs[i+1].Source = r.Needs[i].Source + step
			checkIn(t, r, step > 0)
			r = longest(10)
			r.Crops[i+1].Source = r.Crops[i].Source + step
			checkIn(t, r, step > 0)
			r = longest(10)
			r.Findings[i+1].Source = r.Findings[i].Source + step
			checkIn(t, r, step > 0)
			r = longest(10)
			r.Mades[i+1].Source = r.Mades[i].Source + step
			checkIn(t, r, step > 0)
		}
	}
}

// sourcesOf returns all sources of a relief, as places that can be changed, kind by kind.
func sourcesOf(r *api.Relief) [][]*int {
	all := make([][]*int, 4)
	for i := range r.Needs {
		all[0] = append(all[0], &r.Needs[i].Source)
	}
	for i := range r.Crops {
		all[1] = append(all[1], &r.Crops[i].Source)
	}
	for i := range r.Findings {
		all[2] = append(all[2], &r.Findings[i].Source)
	}
	for i := range r.Mades {
		all[3] = append(all[3], &r.Mades[i].Source)
	}
	return all
}

// TestSharedSource: no Source is that of two entries of different kinds, also if one of them does not count.
func TestSharedSource(t *testing.T) {
	for kind := range 4 {
		for other := range 4 {
			for i := range 10 {
				r := longest(10)
				of := sourcesOf(&r)
				if kind == other {
					continue
				}
				for j := range 10 { // below all others, but for one that is shared
					*of[kind][j] = 100 + 2*j
					*of[other][j] = 101 + 2*j
				}
				checkIn(t, r, true)
				*of[other][i] = *of[kind][i]
				checkIn(t, r, false)
				r.Needs[i].Known, r.Crops[i].Known, r.Findings[i].Known, r.Mades[i].Known = 1, 2, 3, 4
				checkIn(t, r, false)
			}
		}
	}
}

func TestFound(t *testing.T) {
	r := example()
	r.Findings = append(r.Findings, api.Finding{Source: 25, Family: 1, Known: 4166})
	for source := range 40 {
		f := aFinding()
		f.Source = source
		wanted, e := api.Relief{}, api.ErrFinding
		if !slices.Contains(list(0, 1, 2, 3, 4, 11, 12, 21, 25, 31), source) {
			wanted, e = r, api.OK
			wanted.Findings = slices.Concat(r.Findings, []api.Finding{f})
			slices.SortFunc(wanted.Findings, func(a, b api.Finding) int { return a.Source - b.Source })
		}
		wantRelief(t, f, wanted, e)(relief.Found(r, f))
	}
	for n := 58; n <= 60; n++ {
		r := longest(n)
		r.Scales = r.Scales[:10]
		for _, source := range list(1, 3000, 3500, 99999) {
			f := aFinding()
			f.Source = source
			wanted, e := api.Relief{}, api.ErrLong
			if n < 60 {
				wanted, e = r, api.OK
				wanted.Findings = slices.Concat(r.Findings, []api.Finding{f})
				slices.SortFunc(wanted.Findings, func(a, b api.Finding) int { return a.Source - b.Source })
			}
			wantRelief(t, n, wanted, e)(relief.Found(r, f))
			f.To = 596
			wantRelief(t, "ErrFinding before ErrLong", api.Relief{}, api.ErrFinding)(relief.Found(r, f))
		}
		for _, source := range list(1001, 2001, 3001, 4001, 1000+n, 2000+n, 3000+n, 4000+n) {
			f := aFinding()
			f.Source = source
			wantRelief(t, "a source that is there", api.Relief{}, api.ErrFinding)(relief.Found(r, f))
		}
	}
}

func TestFamilies(t *testing.T) {
	r := api.Relief{
		Needs:    []api.Need{{Source: 1, Family: 99, Known: 10, Until: 20}, {Source: 2, Family: 5, Known: 12}},
		Crops:    []api.Crop{{Source: 3, Family: 5, Known: 3}, {Source: 4, Family: 1, Known: 15, Until: 16}},
		Findings: []api.Finding{{Source: 5, Family: 30, Known: 4166}},
		Mades:    []api.Made{{Source: 6, Family: 99, Gallons: 1, Known: 11, Until: 4166}},
	}
	for known, families := range map[int][]int{
		0: nil, 2: nil, 3: {5}, 9: {5}, 10: {5, 99}, 14: {5, 99}, 15: {1, 5, 99}, 16: {5, 99}, 20: {5, 99}, 4165: {5, 99}, 4166: {5, 30},
	} {
		wantList(t, known, families, api.OK)(relief.Families(r, known))
	}
	wantList(t, "many", numbers(1, 60), api.OK)(relief.Families(api.Relief{Mades: longest(60).Mades}, 0))
}

// numbers returns those from one to another.
func numbers(from, to int) []int {
	var all []int
	for n := from; n <= to; n++ {
		all = append(all, n)
	}
	return all
}

func TestDates(t *testing.T) {
	n, c, f, m := aNeed(), aCrop(), aFinding(), aMade()
	n.Source, c.Source, f.Source, m.Source = 1, 2, 3, 4
	r := api.Relief{Needs: []api.Need{n}, Crops: []api.Crop{c}, Findings: []api.Finding{f}, Mades: []api.Made{m}}
	wantList(t, r, list(40, 50), api.OK)(relief.Dates(r))
	r.Needs[0].Known, r.Needs[0].Until = 4165, 4166
	wantList(t, r, list(40, 50, 4165, 4166), api.OK)(relief.Dates(r))
	r.Crops[0].Known, r.Crops[0].Until = 0, 0
	wantList(t, r, list(0, 40, 50, 4165, 4166), api.OK)(relief.Dates(r))
	r.Findings[0].Known, r.Findings[0].Until = 41, 49
	wantList(t, r, list(0, 40, 41, 49, 50, 4165, 4166), api.OK)(relief.Dates(r))
	r.Mades[0].Known, r.Mades[0].Until = 7, 0
	wantList(t, r, list(0, 7, 41, 49, 4165, 4166), api.OK)(relief.Dates(r))
	wantList(t, "scales alone", list(), api.OK)(relief.Dates(api.Relief{Scales: []api.Scale{aScale()}}))
	wantList(t, "no end", list(7), api.OK)(relief.Dates(api.Relief{Needs: []api.Need{{Source: 1, Family: 1, Known: 7}}}))
	wantList(t, "the first end", list(0, 1), api.OK)(relief.Dates(api.Relief{Needs: []api.Need{{Source: 1, Family: 1, Until: 1}}}))
}

// TestCounts: times that begin or end on the day itself, of each kind.
func TestCounts(t *testing.T) {
	for known := range 6 {
		for until := range 6 {
			if until != 0 && until <= known {
				continue
			}
			n := api.Need{Source: 1, Family: 5, Heads: 1, Known: known, Until: until}
			c := api.Crop{Source: 2, Family: 5, Gallons: span(4, 4), Known: known, Until: until}
			f := api.Finding{Source: 3, Family: 5, Known: known, Until: until}
			m := api.Made{Source: 4, Family: 5, Gallons: 1, Known: known, Until: until}
			need, crop := n, c
			need.Known, need.Until, crop.Known, crop.Until = 0, 0, 0, 0
			finding := api.Finding{Source: 3, Family: 5}
			for day := range 7 {
				then := func(is, not int) int {
					if day >= known && (until == 0 || day < until) {
						return is
					}
					return not
				}
				scales := []api.Scale{{Bread: 10}}
				want(t, n, then(10, 0), api.OK)(relief.Wants(api.Relief{Scales: scales, Needs: []api.Need{n}}, 5, 0, day))
				want(t, c, account(then(6, 10), 0), api.OK)(relief.Stands(api.Relief{Scales: scales, Needs: []api.Need{need}, Crops: []api.Crop{c}}, 5, day))
				want(t, f, account(then(10, 6), then(4, 0)), api.OK)(relief.Stands(api.Relief{Scales: scales, Needs: []api.Need{need}, Crops: []api.Crop{crop}, Findings: []api.Finding{f}}, 5, day))
				want(t, c, then(4, 0), api.OK)(relief.Owed(api.Relief{Crops: []api.Crop{c}, Findings: []api.Finding{finding}}, 5, day))
				want(t, m, then(3, 4), api.OK)(relief.Owed(api.Relief{Crops: []api.Crop{crop}, Findings: []api.Finding{finding}, Mades: []api.Made{m}}, 5, day))
			}
		}
	}
}
