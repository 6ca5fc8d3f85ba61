package sheaf_test

import (
	"math"
	"slices"
	"testing"

	"leazing/api"
	"leazing/sheaf"
)

// P1.1: what is valid, each limit at its edge and beyond it.

// edges has numbers around the limits of a range, and whether they are within it.
func edges(lo, hi int) map[int]bool {
	return map[int]bool{lo: true, hi: true, lo - 1: false, hi + 1: false, math.MinInt: false, math.MaxInt: false}
}

func wantErrno(t *testing.T, what any, valid bool, got, invalid api.Errno) {
	t.Helper()
	want := invalid
	if valid {
		want = api.OK
	}
	if got != want {
		t.Errorf("%+v: error %d, want %d", what, got, want)
	}
}

type mark struct {
	source, known, until int
	valid                bool
}

// marks are sources and times that all of loads, stands and spells must have.
func marks() []mark {
	l := []mark{{1, 4165, 4166, true}, {1, 3, 3, false}, {1, 3, 2, false}, {1, 3, 4, true}, {1, 3, 4167, false}, {1, 3, -1, false}, {1, 4166, 0, true}, {1, 0, 1, true}, {1, 0, math.MaxInt, false}, {1, 0, math.MinInt, false}}
	for n, valid := range edges(1, 99999) {
		l = append(l, mark{n, 0, 0, valid})
	}
	for n, valid := range edges(0, 4166) {
		l = append(l, mark{1, n, 0, valid})
	}
	return l
}

type sheavesCase struct {
	sheaves api.Range
	valid   bool
}

func sheavesCases() []sheavesCase {
	return []sheavesCase{
		{api.Range{Lo: 0, Hi: 0}, true}, {api.Range{Lo: 0, Hi: 10000}, true}, {api.Range{Lo: 10000, Hi: 10000}, true},
		{api.Range{Lo: -1, Hi: 0}, false}, {api.Range{Lo: 0, Hi: 10001}, false}, {api.Range{Lo: 2, Hi: 1}, false},
		{api.Range{Lo: math.MinInt, Hi: math.MaxInt}, false},
	}
}

func TestCheckLoadAndStand(t *testing.T) {
	check := func(l api.Load, valid bool) {
		t.Helper()
		wantErrno(t, l, valid, sheaf.CheckLoad(l), api.ErrLoad)
		s := api.Stand(l)
		wantErrno(t, s, valid, sheaf.CheckStand(s), api.ErrStand)
	}
	for _, m := range marks() {
		check(api.Load{Source: m.source, Known: m.known, Until: m.until}, m.valid)
	}
	for n, valid := range edges(0, 99999) {
		check(api.Load{Source: 1, Hour: n}, valid)
	}
	for _, c := range sheavesCases() {
		check(api.Load{Source: 1, Sheaves: c.sheaves}, c.valid)
	}
}

func TestCheckSpell(t *testing.T) {
	check := func(s api.Spell, valid bool) {
		t.Helper()
		wantErrno(t, s, valid, sheaf.CheckSpell(s), api.ErrSpell)
	}
	for _, m := range marks() {
		check(api.Spell{Source: m.source, Kind: 1, Known: m.known, Until: m.until}, m.valid)
	}
	for n, valid := range edges(1, 2) {
		check(api.Spell{Source: 1, Kind: n}, valid)
	}
	for n, valid := range edges(0, 99999) {
		check(api.Spell{Source: 1, Kind: 2, From: n, To: 99999}, valid)
		check(api.Spell{Source: 1, Kind: 2, From: 0, To: n}, valid)
	}
	check(api.Spell{Source: 1, Kind: 2, From: 8, To: 8}, true)
	check(api.Spell{Source: 1, Kind: 2, From: 9, To: 8}, false)
}

// full returns a plot with so many loads, stands and spells.
func full(loads, stands, spells int) api.Plot {
	var p api.Plot
	for i := range loads {
		p.Loads = append(p.Loads, api.Load{Source: 3*i + 1})
	}
	for i := range stands {
		p.Stands = append(p.Stands, api.Stand{Source: 3*i + 2})
	}
	for i := range spells {
		p.Spells = append(p.Spells, api.Spell{Source: 3*i + 3, Kind: 1})
	}
	return p
}

func TestCheck(t *testing.T) {
	check := func(p api.Plot, valid bool) {
		t.Helper()
		wantErrno(t, p, valid, sheaf.Check(p), api.ErrPlot)
	}
	check(api.Plot{}, true)
	check(example(), true)
	for _, c := range sheavesCases() {
		check(api.Plot{Sown: c.sheaves}, c.valid)
	}
	for n, valid := range edges(0, 60) {
		check(api.Plot{Geese: n}, valid)
	}
	check(full(60, 60, 60), true)
	check(full(61, 0, 0), false)
	check(full(0, 61, 0), false)
	check(full(0, 0, 61), false)
	check(api.Plot{Loads: []api.Load{{Source: 2}, {Source: 1}}}, false)
	check(api.Plot{Stands: []api.Stand{{Source: 2}, {Source: 2}}}, false)
	check(api.Plot{Spells: []api.Spell{{Source: 2, Kind: 1}, {Source: 1, Kind: 1}}}, false)
	check(api.Plot{Loads: []api.Load{{Source: 0}}}, false)
	check(api.Plot{Stands: []api.Stand{{Source: 1, Hour: -1}}}, false)
	check(api.Plot{Spells: []api.Spell{{Source: 1, Kind: 3}}}, false)
}

// TestCheckSources: no source is that of two of all the loads, stands and spells.
func TestCheckSources(t *testing.T) {
	load, stand, spell := []api.Load{{Source: 7}}, []api.Stand{{Source: 7}}, []api.Spell{{Source: 7, Kind: 1}}
	for _, p := range []api.Plot{{Loads: load, Stands: stand}, {Loads: load, Spells: spell}, {Stands: stand, Spells: spell}} {
		wantErrno(t, p, false, sheaf.Check(p), api.ErrPlot)
	}
	apart := api.Plot{Loads: []api.Load{{Source: 9}}, Stands: []api.Stand{{Source: 8}}, Spells: spell}
	wantErrno(t, apart, true, sheaf.Check(apart), api.ErrPlot)
}

func TestStands(t *testing.T) {
	for source, at := range map[int]int{10: 0, 15: 4, 5: 0, 99999: 4} {
		s := api.Stand{Source: source, Hour: 3, Sheaves: api.Range{Lo: 1, Hi: 2}, Known: 3, Until: 5}
		p, e := sheaf.Stands(example(), s)
		want := example()
		want.Stands = slices.Insert(want.Stands, at, s)
		if e != api.OK || !equal(p, want) {
			t.Error(source, p, e)
		}
	}
	between := full(0, 2, 0)
	p, e := sheaf.Stands(between, api.Stand{Source: 3})
	if e != api.OK || len(p.Stands) != 3 || p.Stands[1].Source != 3 {
		t.Error(p, e)
	}
	for _, s := range []api.Stand{{Source: 1}, {Source: 11}, {Source: 22}, {Source: 0}, {Source: 99, Hour: -1}, {Source: 99, Known: 5, Until: 5}} {
		if p, e := sheaf.Stands(example(), s); e != api.ErrStand || !equal(p, api.Plot{}) {
			t.Error(s, p, e)
		}
	}
	if p, e := sheaf.Stands(full(60, 59, 60), api.Stand{Source: 9999}); e != api.OK || len(p.Stands) != 60 || sheaf.Check(p) != api.OK {
		t.Error(p, e)
	}
	if p, e := sheaf.Stands(full(0, 60, 0), api.Stand{Source: 9999}); e != api.ErrLong || !equal(p, api.Plot{}) {
		t.Error(p, e)
	}
	if _, e := sheaf.Stands(full(0, 60, 0), api.Stand{Source: 2}); e != api.ErrStand {
		t.Error("ErrStand is named before ErrLong:", e)
	}
	if _, e := sheaf.Stands(api.Plot{Geese: -1}, api.Stand{}); e != api.ErrPlot {
		t.Error("ErrPlot is named first:", e)
	}
}

func TestWithout(t *testing.T) {
	for source, drop := range map[int]func(*api.Plot){
		2:  func(p *api.Plot) { p.Loads = slices.Delete(p.Loads, 1, 2) },
		14: func(p *api.Plot) { p.Stands = p.Stands[:3] },
		21: func(p *api.Plot) { p.Spells = p.Spells[1:] },
	} {
		want := example()
		drop(&want)
		if p, e := sheaf.Without(example(), source); e != api.OK || !equal(p, want) {
			t.Error(source, p, e)
		}
	}
	for _, source := range []int{0, -1, 4, 99999, math.MaxInt, math.MinInt} {
		if p, e := sheaf.Without(example(), source); e != api.ErrNone || !equal(p, api.Plot{}) {
			t.Error(source, p, e)
		}
	}
	if _, e := sheaf.Without(api.Plot{Geese: -1}, 1); e != api.ErrPlot {
		t.Error(e)
	}
}

func TestDates(t *testing.T) {
	p := example()
	p.Loads[0].Until = 3
	p.Stands[0].Until = 9
	p.Spells[1].Until = 4166
	if l, e := sheaf.Dates(p); e != api.OK || !slices.Equal(l, []int{0, 2, 3, 4, 5, 6, 9, 4166}) {
		t.Error(l, e)
	}
	late := api.Plot{Loads: []api.Load{{Source: 1, Known: 7}}, Spells: []api.Spell{{Source: 2, Kind: 1, Known: 5, Until: 6}}}
	if l, e := sheaf.Dates(late); e != api.OK || !slices.Equal(l, []int{5, 6, 7}) {
		t.Error("an Until that is 0 is no date:", l, e)
	}
	if l, e := sheaf.Dates(api.Plot{}); e != api.OK || len(l) != 0 {
		t.Error(l, e)
	}
	if l, e := sheaf.Dates(api.Plot{Geese: 61}); e != api.ErrPlot || l != nil {
		t.Error(l, e)
	}
}
