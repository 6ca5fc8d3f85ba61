package relief_test

import (
	"math/rand"
	"slices"
	"testing"

	"leazing/api"
	"leazing/relief"
)

// P7.1 to P7.3: what families need, have and are given, in reliefs up to the limits.

// exact returns a relief in which true gallons of a family are the only ones.
func exact(of api.Relief, sources, gallons []int) api.Relief {
	of.Crops = slices.Clone(of.Crops)
	for i, c := range of.Crops {
		if at := slices.Index(sources, c.Source); at >= 0 {
			of.Crops[i].Gallons = span(gallons[at], gallons[at])
		}
	}
	return of
}

// had returns what the family had of its crops up to the end of a week, by true gallons.
func had(of api.Relief, sources, gallons []int, week int) int {
	all := 0
	for _, c := range of.Crops {
		if at := slices.Index(sources, c.Source); at >= 0 && c.Week <= week {
			all += gallons[at]
		}
	}
	return all
}

// TestSums: P7.2 and P7.3: what is said of some true gallons, week by week, and what these say together.
func TestSums(t *testing.T) {
	check := func(last int) func(r *rand.Rand, of api.Relief) {
		return func(r *rand.Rand, of api.Relief) {
			known, families := day(t, r, of), named(of)
			if len(families) == 0 {
				return
			}
			family := families[r.Intn(len(families))]
			sources := must[[]int](t, of)(relief.Counted(of, family, known))
			x := taleOf(of, family, known)
			for _, gallons := range [][]int{x.least(), x.most(), x.some(r), x.some(r)} {
				only := exact(of, sources, gallons)
				given, needed := 0, 0
				for week := range last + 1 {
					bread := must[api.Range](t, of)(relief.Bread(of, family, week, known))
					left := must[api.Range](t, of)(relief.Carried(of, family, week, known))
					now := must[int](t, of)(relief.Truly(of, family, week, known, gallons))
					given += now
					needed += must[int](t, of)(relief.Wants(of, family, week, known))
					carried := had(of, sources, gallons, week) + given - needed
					if now < bread.Lo || bread.Hi < now || carried < left.Lo || left.Hi < carried {
						t.Fatalf("%+v: week %d: %d is not within %v, or %d not within %v", of, week, now, bread, carried, left)
					}
					want(t, of, span(now, now), api.OK)(relief.Bread(only, family, week, known))
					want(t, of, span(carried, carried), api.OK)(relief.Carried(only, family, week, known))
				}
			}
		}
	}
	reliefs(13, 200, small, check(6))
	reliefs(14, 200, dense, check(12))
	reliefs(15, 2, great, check(595))
	reliefs(16, 30, great, check(100))
}

// TestEnds: P7.2: both ends are attained: the least Bread and the greatest Carried by the greatest gallons, and the other ones by the least.
func TestEnds(t *testing.T) {
	uncertain := 0
	check := func(r *rand.Rand, of api.Relief) {
		known := day(t, r, of)
		for _, family := range someFamilies(of) {
			x := taleOf(of, family, known)
			given, left := x.bounds([][]int{x.least(), x.most(), x.some(r), x.some(r)})
			least, most := x.least(), x.most()
			for _, week := range list(r.Intn(11), r.Intn(11), r.Intn(596), 0, 595) {
				bread := must[api.Range](t, of)(relief.Bread(of, family, week, known))
				want(t, of, bread.Lo, api.OK)(relief.Truly(of, family, week, known, most))
				want(t, of, bread.Hi, api.OK)(relief.Truly(of, family, week, known, least))
				want(t, of, given[week], api.OK)(bread, api.OK)
				want(t, of, left[week], api.OK)(relief.Carried(of, family, week, known))
				if bread.Lo < bread.Hi {
					uncertain++
				}
			}
			want(t, of, x.standing(given, known), api.OK)(relief.Stands(of, family, known))
		}
	}
	reliefs(17, 200, small, check)
	reliefs(18, 300, dense, check)
	reliefs(19, 30, great, check)
	if uncertain < 200 {
		t.Error("uncertain:", uncertain)
	}
}

// TestScales: what a head gets in weeks before, in which, and after a scale begins.
func TestScales(t *testing.T) {
	r := api.Relief{Needs: []api.Need{{Source: 1, Family: 3, Week: 0, Heads: 2}, {Source: 2, Family: 3, Week: 9, Heads: 2}, {Source: 3, Family: 3, Week: 10, Heads: 2}, {Source: 4, Family: 3, Week: 595, Heads: 2}}}
	for _, x := range []struct {
		scales []api.Scale
		want   [4]int // in the weeks 0, 9, 10 and 595
	}{
		{nil, [4]int{}},
		{[]api.Scale{{From: 0, Bread: 3}}, [4]int{6, 6, 6, 6}},
		{[]api.Scale{{From: 10, Bread: 3}}, [4]int{0, 0, 6, 6}},
		{[]api.Scale{{From: 0, Bread: 7}, {From: 10, Bread: 3}}, [4]int{14, 14, 6, 6}},
		{[]api.Scale{{From: 1, Bread: 7}, {From: 9, Bread: 0}, {From: 595, Bread: 100}}, [4]int{0, 0, 0, 200}},
		{[]api.Scale{{From: 9, Bread: 1}, {From: 10, Bread: 2}, {From: 11, Bread: 3}, {From: 594, Bread: 4}}, [4]int{0, 2, 4, 8}},
	} {
		r.Scales = x.scales
		for i, week := range list(0, 9, 10, 595) {
			want(t, x, x.want[i], api.OK)(relief.Wants(r, 3, week, 0))
			want(t, x, span(x.want[i], x.want[i]), api.OK)(relief.Bread(r, 3, week, 0))
		}
	}
}

// TestOneWeek: needs and crops of the same week and family count together, those of others do not.
func TestOneWeek(t *testing.T) {
	r := api.Relief{
		Scales: []api.Scale{{Bread: 10}},
		Needs:  []api.Need{{Source: 1, Family: 3, Week: 5, Heads: 2}, {Source: 2, Family: 3, Week: 5, Heads: 1}, {Source: 3, Family: 4, Week: 5, Heads: 9}, {Source: 4, Family: 3, Week: 6, Heads: 7}, {Source: 5, Family: 3, Week: 5, Heads: 0}},
		Crops:  []api.Crop{{Source: 6, Family: 3, Week: 5, Gallons: span(1, 4)}, {Source: 7, Family: 4, Week: 5, Gallons: span(9, 9)}, {Source: 8, Family: 3, Week: 5, Gallons: span(2, 2)}, {Source: 9, Family: 3, Week: 7, Gallons: span(50, 60)}},
	}
	want(t, "both needs", 30, api.OK)(relief.Wants(r, 3, 5, 0))
	want(t, "less both crops", span(24, 27), api.OK)(relief.Bread(r, 3, 5, 0))
	want(t, "nothing is left", span(0, 0), api.OK)(relief.Carried(r, 3, 5, 0))
	want(t, "what comes later is not had yet", span(70, 70), api.OK)(relief.Bread(r, 3, 6, 0))
	want(t, "from a week without needs", span(50, 60), api.OK)(relief.Carried(r, 3, 7, 0))
	want(t, "to the last week", span(50, 60), api.OK)(relief.Carried(r, 3, 595, 0))
	wantList(t, "3", list(6, 8, 9), api.OK)(relief.Counted(r, 3, 0))
	wantError(t, "by Source", api.OK, relief.CheckCrops(r, 3, 0, list(4, 2, 55)))
	wantError(t, "in another order", api.ErrCrops, relief.CheckCrops(r, 3, 0, list(2, 4, 55)))
}

// TestFindings: findings of one week, and several that cover one crop.
func TestFindings(t *testing.T) {
	r := api.Relief{
		Scales: []api.Scale{{Bread: 10}},
		Needs:  []api.Need{{Source: 1, Family: 3, Week: 5, Heads: 2}},
		Crops:  []api.Crop{{Source: 2, Family: 3, Week: 4, Gallons: span(3, 9)}, {Source: 3, Family: 3, Week: 5, Gallons: span(5, 6)}, {Source: 4, Family: 3, Week: 6, Gallons: span(1, 2)}, {Source: 5, Family: 4, Week: 5, Gallons: span(8, 8)}},
	}
	for _, x := range []struct {
		findings []api.Finding
		counted  []int
		bread    api.Range
		owed     int
	}{
		{nil, list(2, 3, 4), span(5, 12), 0},
		{[]api.Finding{{Source: 11, Family: 3, From: 5, To: 5}}, list(2, 4), span(11, 17), 5},
		{[]api.Finding{{Source: 11, Family: 3, From: 5, To: 5}, {Source: 12, Family: 3, From: 5, To: 5}}, list(2, 4), span(11, 17), 5},
		{[]api.Finding{{Source: 11, Family: 3, From: 0, To: 5}, {Source: 12, Family: 3, From: 5, To: 595}}, nil, span(20, 20), 9},
		{[]api.Finding{{Source: 11, Family: 3, From: 0, To: 4}, {Source: 12, Family: 3, From: 6, To: 6}}, list(3), span(14, 15), 4},
		{[]api.Finding{{Source: 11, Family: 4, From: 0, To: 595}}, list(2, 3, 4), span(5, 12), 0},
		{[]api.Finding{{Source: 11, Family: 3, From: 0, To: 3}, {Source: 12, Family: 3, From: 7, To: 595}}, list(2, 3, 4), span(5, 12), 0},
	} {
		r.Findings = x.findings
		wantList(t, x, x.counted, api.OK)(relief.Counted(r, 3, 0))
		want(t, x, x.bread, api.OK)(relief.Bread(r, 3, 5, 0))
		want(t, x, x.owed, api.OK)(relief.Owed(r, 3, 0))
		for _, made := range list(1, 5, 8, 9, 100000) {
			r := r
			r.Mades = []api.Made{{Source: 21, Family: 3, Gallons: made}, {Source: 22, Family: 4, Gallons: 7}}
			want(t, x, max(0, x.owed-made), api.OK)(relief.Owed(r, 3, 0))
			r.Mades = append(r.Mades, api.Made{Source: 23, Family: 3, Gallons: 1})
			want(t, x, max(0, x.owed-made-1), api.OK)(relief.Owed(r, 3, 0))
		}
	}
}

// greatest returns a relief of one family with as much of all as can be, all of it in one week.
func greatest(week int) api.Relief {
	r := longest(60)
	r.Scales, r.Findings, r.Mades = []api.Scale{{Bread: 100}}, nil, nil
	for i := range 60 {
		r.Needs[i].Family, r.Needs[i].Week, r.Needs[i].Heads = 99, week, 20
		r.Crops[i].Family, r.Crops[i].Week, r.Crops[i].Gallons = 99, week, span(0, 100000)
	}
	return r
}

// TestGreatest: gallons at the limits, in the first and in the last week.
func TestGreatest(t *testing.T) {
	for _, week := range list(0, 300, 595) {
		r := greatest(week)
		want(t, week, 120000, api.OK)(relief.Wants(r, 99, week, 0))
		want(t, week, span(0, 120000), api.OK)(relief.Bread(r, 99, week, 0))
		want(t, week, span(0, 5880000), api.OK)(relief.Carried(r, 99, week, 0))
		want(t, week, span(0, 5880000), api.OK)(relief.Carried(r, 99, 595, 0))
		want(t, week, account(120000, 0), api.OK)(relief.Stands(r, 99, 7*week))
		want(t, week, 119999, api.OK)(relief.Truly(r, 99, week, 0, append(make([]int, 59), 1)))
		for i := range 60 {
			r.Crops[i].Gallons = span(100000, 100000)
		}
		want(t, week, span(0, 0), api.OK)(relief.Bread(r, 99, week, 0))
		r.Findings = []api.Finding{{Source: 1, Family: 99, From: week, To: week}}
		want(t, week, span(120000, 120000), api.OK)(relief.Bread(r, 99, week, 0))
		want(t, week, account(120000, 6000000), api.OK)(relief.Stands(r, 99, 4166))
	}
}

// TestLastDays: the week that has a day is the last one of an account.
func TestLastDays(t *testing.T) {
	for _, week := range list(0, 1, 2, 300, 594, 595) {
		r := api.Relief{Scales: []api.Scale{{Bread: 3}}, Needs: []api.Need{{Source: 1, Family: 3, Week: week, Heads: 4}}}
		for day := max(0, 7*week-8); day <= min(4166, 7*week+8); day++ {
			bread := 0
			if day >= 7*week {
				bread = 12
			}
			want(t, day, account(bread, 0), api.OK)(relief.Stands(r, 3, day))
		}
		want(t, week, account(12, 0), api.OK)(relief.Stands(r, 3, 4166))
	}
}
