package drift_test

import (
	"math"
	"math/rand"
	"slices"
	"testing"

	"leazing/api"
	"leazing/drift"
)

// P4.1 and P4.2: lengths and worths of drifts, and gains that are compared.

// driftsOf returns all drifts of a ground.
func driftsOf(g api.Ground) []api.Drift {
	var all []api.Drift
	for from := range g.Cells {
		for to := from; to < len(g.Cells); to++ {
			all = append(all, cells(from, to))
		}
	}
	return all
}

// truths returns true links of a ground: all of them where they are few, and otherwise those that are least or greatest, and some between.
func truths(r *rand.Rand, g api.Ground) [][]int {
	few := 1
	for _, c := range g.Chains {
		few = min(1000, few*(c.Link.Hi-c.Link.Lo+1))
	}
	all := [][]int{nil}
	for _, c := range g.Chains {
		tried := list(c.Link.Lo, c.Link.Hi)
		if few < 200 {
			tried = nil
			for n := c.Link.Lo; n <= c.Link.Hi; n++ {
				tried = append(tried, n)
			}
		}
		var longer [][]int
		for _, links := range all {
			for _, n := range tried {
				longer = append(longer, append(slices.Clone(links), n))
			}
		}
		all = longer
	}
	for range 10 {
		var links []int
		for _, c := range g.Chains {
			links = append(links, c.Link.Lo+r.Intn(c.Link.Hi-c.Link.Lo+1))
		}
		all = append(all, links)
	}
	return all
}

// lengthBy returns the length of a drift by true links.
func lengthBy(g api.Ground, links []int, d api.Drift) int {
	length := 0
	for i := d.From; i <= d.To; i++ {
		for row, c := range g.Chains {
			if c.Id == g.Cells[i].Chain {
				length += g.Cells[i].Links * links[row]
			}
		}
	}
	return length
}

// narrowed returns a ground whose links have few lengths, so that all true links are tried.
func narrowed(g api.Ground, most int) api.Ground {
	chains := slices.Clone(g.Chains)
	for i := range chains {
		chains[i].Link.Hi = min(chains[i].Link.Hi, chains[i].Link.Lo+most)
	}
	return api.Ground{Chains: chains, Cells: g.Cells}
}

// TestTrueLengths: by true links a drift is as long as its cells are, and Length has the least and the greatest one of all.
func TestTrueLengths(t *testing.T) {
	r := rand.New(rand.NewSource(10))
	scenes(10, 300, great, func(s scene) {
		for most := range 2 {
			g := s.g
			if most == 0 {
				g = narrowed(g, 1)
			}
			links := truths(r, g)
			for range 20 {
				d := driftsOf(g)[r.Intn(len(driftsOf(g)))]
				told := api.Range{Lo: math.MaxInt, Hi: math.MinInt}
				for _, l := range links {
					length := lengthBy(g, l, d)
					want(t, g, length, api.OK)(drift.Truly(g, l, d))
					told = api.Range{Lo: min(told.Lo, length), Hi: max(told.Hi, length)}
				}
				want(t, g, told, api.OK)(drift.Length(g, d))
				want(t, g, worthOf(g, d.From, d.To), api.OK)(drift.Worth(g, d))
			}
		}
	})
}

// TestEachDrift: Length and Worth of all drifts of a ground, and no others.
func TestEachDrift(t *testing.T) {
	scenes(11, 60, great, func(s scene) {
		least, most := []int{}, []int{}
		for _, c := range s.g.Chains {
			least, most = append(least, c.Link.Lo), append(most, c.Link.Hi)
		}
		for from := -1; from <= len(s.g.Cells)+1; from++ {
			for to := -1; to <= len(s.g.Cells)+1; to++ {
				d := cells(from, to)
				if from < 0 || from > to || to >= len(s.g.Cells) {
					want(t, d, api.Range{}, api.ErrDrift)(drift.Length(s.g, d))
					want(t, d, 0, api.ErrDrift)(drift.Worth(s.g, d))
					want(t, d, 0, api.ErrDrift)(drift.Truly(s.g, most, d))
					want(t, d, 0, api.ErrDrift)(drift.Longer(s.g, d, cells(0, 0)))
					want(t, d, 0, api.ErrDrift)(drift.Longer(s.g, cells(0, 0), d))
					continue
				}
				want(t, d, api.Range{Lo: lengthBy(s.g, least, d), Hi: lengthBy(s.g, most, d)}, api.OK)(drift.Length(s.g, d))
				want(t, d, worthOf(s.g, from, to), api.OK)(drift.Worth(s.g, d))
			}
		}
	})
}

// TestTrueLinks: which links are true ones.
func TestTrueLinks(t *testing.T) {
	scenes(12, 100, great, func(s scene) {
		for i, c := range s.g.Chains {
			edges(c.Link.Lo, c.Link.Hi, func(n int, valid bool) {
				var links []int
				for _, other := range s.g.Chains {
					links = append(links, other.Link.Lo)
				}
				links[i] = n
				if valid {
					want(t, links, lengthBy(s.g, links, cells(0, 0)), api.OK)(drift.Truly(s.g, links, cells(0, 0)))
				} else {
					want(t, links, 0, api.ErrArg)(drift.Truly(s.g, links, cells(0, 0)))
				}
				want(t, links, 0, api.ErrArg)(drift.Truly(s.g, append(links, c.Link.Lo), cells(0, 0)))
				want(t, links, 0, api.ErrArg)(drift.Truly(s.g, links[:i], cells(0, 0)))
			})
		}
	})
}

// TestLonger: a drift is longer by all true links, by none, or by some.
func TestLonger(t *testing.T) {
	r := rand.New(rand.NewSource(13))
	answers, equal := map[int]int{}, 0
	scenes(13, 600, great, func(s scene) {
		g := s.g
		switch r.Intn(3) {
		case 0:
			g = narrowed(g, 1)
		case 1:
			for i := range g.Cells {
				g.Cells[i].Links = 1 + r.Intn(2)
			}
			for i := range g.Chains {
				g.Chains[i].Link = api.Range{Lo: 95 + r.Intn(5), Hi: 99 + r.Intn(5)}
			}
		}
		links := truths(r, g)
		all := driftsOf(g)
		for range 20 {
			a, b := all[r.Intn(len(all))], all[r.Intn(len(all))]
			if shift := r.Intn(len(g.Cells) - a.To + a.From); r.Intn(3) > 0 { // of as many cells
				b = cells(shift, shift+a.To-a.From)
			}
			longer := 0
			for _, l := range links {
				if lengthBy(g, l, a) > lengthBy(g, l, b) {
					longer++
				} else if lengthBy(g, l, a) == lengthBy(g, l, b) && a != b {
					equal++
				}
			}
			answer := api.Maybe
			if longer == 0 {
				answer = api.No
			} else if longer == len(links) {
				answer = api.Yes
			}
			answers[answer]++
			want(t, []any{g, a, b}, answer, api.OK)(drift.Longer(g, a, b))
		}
		for _, d := range all {
			want(t, d, api.No, api.OK)(drift.Longer(g, d, d))
		}
	})
	if len(answers) != 3 || answers[api.Maybe] < 500 || equal < 500 {
		t.Error("answers:", answers, "as long:", equal)
	}
}

// TestLongerByAHair: drifts that differ by one, or by nothing, at an end.
func TestLongerByAHair(t *testing.T) {
	g := api.Ground{
		Chains: []api.Chain{{Id: 3, Link: api.Range{Lo: 9, Hi: 10}}, {Id: 8, Link: api.Range{Lo: 10, Hi: 11}}, {Id: 9, Link: api.Range{Lo: 11, Hi: 12}}, {Id: 20, Link: api.Range{Lo: 10, Hi: 10}}},
		Cells:  []api.Cell{{Chain: 3, Links: 7}, {Chain: 8, Links: 7}, {Chain: 9, Links: 7}, {Chain: 20, Links: 7}},
	}
	for _, x := range [][3]int{{0, 1, api.No}, {1, 0, api.Maybe}, {2, 0, api.Yes}, {0, 2, api.No}, {2, 1, api.Maybe}, {1, 2, api.No}, {1, 3, api.Maybe}, {3, 1, api.No}, {0, 3, api.No}, {3, 0, api.Maybe}, {3, 3, api.No}} {
		want(t, x, x[2], api.OK)(drift.Longer(g, cells(x[0], x[0]), cells(x[1], x[1])))
	}
	g.Chains[0].Link, g.Chains[1].Link = api.Range{Lo: 8, Hi: 9}, api.Range{Lo: 10, Hi: 11}
	g.Cells[0].Links, g.Cells[1].Links = 1, 1
	want(t, "by one at least", api.Yes, api.OK)(drift.Longer(g, cells(1, 1), cells(0, 0)))
	want(t, "by one at least", api.No, api.OK)(drift.Longer(g, cells(0, 0), cells(1, 1)))
	g.Chains[0].Link.Hi = 11
	want(t, "by one at most", api.Maybe, api.OK)(drift.Longer(g, cells(0, 0), cells(1, 1)))
	// Links that both drifts have are as long in both, however long they are.
	g.Chains[0].Link = api.Range{Lo: 1, Hi: 1000}
	g.Cells = []api.Cell{{Chain: 8, Links: 1}, {Chain: 3, Links: 1000}, {Chain: 20, Links: 1}}
	want(t, "beside it", api.Maybe, api.OK)(drift.Longer(g, cells(0, 1), cells(1, 2)))
	want(t, "beside it", api.No, api.OK)(drift.Longer(g, cells(1, 2), cells(0, 1)))
	want(t, "in it", api.Yes, api.OK)(drift.Longer(g, cells(0, 1), cells(1, 1)))
	want(t, "around it", api.No, api.OK)(drift.Longer(g, cells(1, 1), cells(0, 2)))
}

// TestGreatestGround: the longest drift that there can be, and the one that is worth most.
func TestGreatestGround(t *testing.T) {
	g := laid(6, 24)
	for i := range g.Chains {
		g.Chains[i].Link = api.Range{Lo: 1, Hi: 1000}
	}
	for i := range g.Cells {
		g.Cells[i].Links, g.Cells[i].Worth = 1000, 10000
	}
	want(t, "length", api.Range{Lo: 24000, Hi: 24000000}, api.OK)(drift.Length(g, cells(0, 23)))
	want(t, "truly", 24000000, api.OK)(drift.Truly(g, list(1000, 1000, 1000, 1000, 1000, 1000), cells(0, 23)))
	want(t, "worth", 240000, api.OK)(drift.Worth(g, cells(0, 23)))
	want(t, "longer", api.Yes, api.OK)(drift.Longer(g, cells(0, 23), cells(1, 23)))
	want(t, "longer", api.Maybe, api.OK)(drift.Longer(g, cells(0, 0), cells(1, 5)))
	want(t, "least", api.Gain{Num: 240000, Den: 1}, api.OK)(drift.Least(g, many(1)))
	want(t, "least", api.Gain{Num: 20000, Den: 1}, api.OK)(drift.Least(g, many(12)))
}

// TestCompare: gains are compared as fractions.
func TestCompare(t *testing.T) {
	check := func(a, b api.Gain, sign int) {
		t.Helper()
		want(t, []api.Gain{a, b}, sign, api.OK)(drift.Compare(a, b))
		want(t, []api.Gain{b, a}, -sign, api.OK)(drift.Compare(b, a))
	}
	const most = 1000000
	for _, x := range []struct {
		a, b api.Gain
		sign int
	}{
		{api.Gain{Num: 0, Den: 1}, api.Gain{Num: 0, Den: most}, 0}, {api.Gain{Num: 0, Den: most}, api.Gain{Num: 1, Den: most}, -1},
		{api.Gain{Num: most, Den: most}, api.Gain{Num: 1, Den: 1}, 0}, {api.Gain{Num: most, Den: 1}, api.Gain{Num: most, Den: 1}, 0},
		{api.Gain{Num: most - 1, Den: most}, api.Gain{Num: most - 2, Den: most - 1}, 1}, {api.Gain{Num: most, Den: most - 1}, api.Gain{Num: most - 1, Den: most - 2}, -1},
		{api.Gain{Num: most, Den: 1}, api.Gain{Num: most - 1, Den: 1}, 1}, {api.Gain{Num: 1, Den: most}, api.Gain{Num: 1, Den: most - 1}, -1},
		{api.Gain{Num: 7, Den: 3}, api.Gain{Num: 9, Den: 4}, 1}, {api.Gain{Num: 7, Den: 3}, api.Gain{Num: 14, Den: 6}, 0},
	} {
		check(x.a, x.b, x.sign)
	}
	for a := range 1296 {
		x, y := api.Gain{Num: a % 6, Den: a/6%6 + 1}, api.Gain{Num: a / 36 % 6, Den: a/216 + 1}
		sign := 0
		if exact := float64(x.Num)/float64(x.Den) - float64(y.Num)/float64(y.Den); math.Abs(exact) > 1e-9 {
			sign = int(math.Copysign(1, exact))
		}
		check(x, y, sign)
	}
	good := api.Gain{Num: 3, Den: 4}
	checkGain := func(a api.Gain, valid bool) {
		t.Helper()
		_, e := drift.Compare(a, a)
		wantError(t, a, verdict(valid, api.ErrArg), e)
		if !valid {
			want(t, a, 0, api.ErrArg)(drift.Compare(a, good))
			want(t, a, 0, api.ErrArg)(drift.Compare(good, a))
		}
		if e := drift.CheckWall(ground(), claims(), api.Wall{Starts: list(0, 2, 3, 6)}, a); valid == (e == api.ErrArg) {
			t.Errorf("a wall for %+v: error %d", a, e)
		}
	}
	edges(0, most, func(n int, valid bool) { checkGain(api.Gain{Num: n, Den: 7}, valid) })
	edges(1, most, func(n int, valid bool) { checkGain(api.Gain{Num: 7, Den: n}, valid) })
}
