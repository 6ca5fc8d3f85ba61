package sheaf_test

import (
	"math"
	"slices"
	"testing"

	"leazing/api"
	"leazing/sheaf"
)

// P1.1: each function says what follows from all true numbers, found by trying.

// eachKnown calls do with small plots, as known on each of their days, and with all their true numbers.
func eachKnown(n int, do func(p api.Plot, known int, all []api.Carting)) {
	for _, p := range randomPlots(n) {
		for known := range lastDay + 1 {
			do(p, known, truths(p, known, nil))
		}
	}
}

func eachSound(n int, do func(p api.Plot, known int, all []api.Carting)) {
	eachKnown(n, func(p api.Plot, known int, all []api.Carting) {
		if len(all) > 0 {
			do(p, known, all)
		}
	})
}

func TestSound(t *testing.T) {
	found := map[bool]int{}
	eachKnown(1500, func(p api.Plot, known int, all []api.Carting) {
		sound, e := sheaf.Sound(p, known)
		if e != api.OK || sound != (len(all) > 0) {
			t.Fatal(p, known, sound, e)
		}
		found[sound]++
		_, e = sheaf.Stood(p, 0, known)
		if want := map[bool]api.Errno{true: api.OK, false: api.ErrFalse}[sound]; e != want {
			t.Fatal(p, known, e)
		}
	})
	if found[true] < 500 || found[false] < 500 {
		t.Error("too few plots of one kind:", found)
	}
}

func TestStoodAndClear(t *testing.T) {
	eachSound(400, func(p api.Plot, known int, all []api.Carting) {
		for _, hour := range hoursTried {
			left := func(c api.Carting) int { return leftBy(p, c, hour, known) }
			if r, e := sheaf.Stood(p, hour, known); e != api.OK || r != span(all, left) {
				t.Fatal(p, hour, known, r, e)
			}
			clear := func(c api.Carting) bool { return left(c) == 0 }
			if a, e := sheaf.Clear(p, hour, known); e != api.OK || a != asAnswer(all, clear) {
				t.Fatal(p, hour, known, a, e)
			}
		}
	})
}

func TestCarted(t *testing.T) {
	eachSound(1000, func(p api.Plot, known int, all []api.Carting) {
		for i, l := range countingLoads(p, known) {
			want := span(all, func(c api.Carting) int { return c.Loads[i] })
			if r, e := sheaf.Carted(p, l.Source, known); e != api.OK || r != want {
				t.Fatal(p, l.Source, known, r, e)
			}
		}
	})
}

func TestFirst(t *testing.T) {
	eachSound(1000, func(p api.Plot, known int, all []api.Carting) {
		want := span(all, func(c api.Carting) int { return clearFrom(p, c, known) })
		if r, e := sheaf.First(p, known); e != api.OK || r != want {
			t.Fatal(p, known, r, e, want)
		}
	})
}

func TestShutAndOpen(t *testing.T) {
	answers := map[int]int{}
	eachKnown(800, func(p api.Plot, known int, all []api.Carting) {
		for _, hour := range hoursTried {
			if is, e := sheaf.Shut(p, hour, known); e != api.OK || is != isShut(p, hour, known) {
				t.Fatal(p, hour, known, is, e)
			}
			if len(all) == 0 {
				continue
			}
			open := func(c api.Carting) bool { return isOpen(p, c, hour, known) }
			a, e := sheaf.Open(p, hour, known)
			if e != api.OK || a != asAnswer(all, open) {
				t.Fatal(p, hour, known, a, e)
			}
			answers[a]++
		}
	})
	if answers[api.Yes] < 100 || answers[api.No] < 100 || answers[api.Maybe] < 100 {
		t.Error("too few answers of one kind:", answers)
	}
}

// TestBell: the bell's hours of a day, and a spell's first and last hour.
func TestBell(t *testing.T) {
	var bare api.Plot
	for hour := range 72 {
		want := hour%24 < 8 || hour%24 >= 19
		if is, e := sheaf.Shut(bare, hour, 0); e != api.OK || is != want {
			t.Error(hour, is, e)
		}
	}
	for _, kind := range []int{api.SpGuard, api.SpRain} {
		p := api.Plot{Spells: []api.Spell{{Source: 1, Kind: kind, From: 10, To: 12, Known: 2, Until: 4}}}
		for hour, shut := range map[int]bool{9: false, 10: true, 11: true, 12: true, 13: false} {
			for known := range 6 {
				want := shut && known >= 2 && known < 4
				if is, e := sheaf.Shut(p, hour, known); e != api.OK || is != want {
					t.Error(kind, hour, known, is, e)
				}
			}
		}
	}
}

// TestGeese: the hours from which a field may be clear need not be all those between two of them.
func TestGeese(t *testing.T) {
	p := api.Plot{
		Sown: api.Range{Lo: 5, Hi: 5}, Geese: 1,
		Loads: []api.Load{
			{Source: 1, Hour: 30, Sheaves: api.Range{Lo: 0, Hi: 5}},
			{Source: 2, Hour: 58, Sheaves: api.Range{Lo: 0, Hi: 0}},
			{Source: 3, Hour: 82, Sheaves: api.Range{Lo: 0, Hi: 5}},
		},
	}
	for hour, want := range map[int]int{33: api.Maybe, 36: api.Maybe, 56: api.No, 60: api.No, 83: api.Maybe, 105: api.Maybe, 106: api.No} {
		if a, e := sheaf.Open(p, hour, 0); e != api.OK || a != want {
			t.Error(hour, a, e)
		}
	}
	p.Geese = 0
	if a, e := sheaf.Open(p, 99999-24*3, 0); e != api.OK || a != api.Maybe {
		t.Error("geese that never come:", a, e)
	}
	bare := api.Plot{Geese: 60} // clear from the hour 0 on
	for hour, want := range map[int]int{8: api.Yes, 24*60 - 6: api.Yes, 24*60 - 5: api.No, 24*60 + 8: api.No} {
		if a, e := sheaf.Open(bare, hour, 0); e != api.OK || a != want {
			t.Error(hour, a, e)
		}
	}
}

func TestCheckCartingLeftAndTruly(t *testing.T) {
	eachKnown(300, func(p api.Plot, known int, all []api.Carting) {
		for _, c := range all[:min(len(all), 20)] {
			if e := sheaf.CheckCarting(p, known, c); e != api.OK {
				t.Fatal(p, known, c, e)
			}
			for _, hour := range hoursTried {
				if n, e := sheaf.Left(p, c, hour, known); e != api.OK || n != leftBy(p, c, hour, known) {
					t.Fatal(p, known, c, hour, n, e)
				}
				if is, e := sheaf.Truly(p, c, hour, known); e != api.OK || is != isOpen(p, c, hour, known) {
					t.Fatal(p, known, c, hour, is, e)
				}
			}
		}
		// All numbers near the true ones, and all by no loads and stands, are true ones only if they are among them.
		for _, c := range truths(p, known, []int{}) {
			isTrue := slices.ContainsFunc(all, func(d api.Carting) bool { return c.Sown == d.Sown && slices.Equal(c.Loads, d.Loads) })
			if e := sheaf.CheckCarting(p, known, c); (e == api.OK) != isTrue || !isTrue && e != api.ErrCarting {
				t.Fatal(p, known, c, e)
			}
		}
	})
}

func TestCheckCartingEdges(t *testing.T) {
	true2 := api.Carting{Sown: 110, Loads: []int{45, 35}}
	if e := sheaf.CheckCarting(example(), 2, true2); e != api.OK {
		t.Error(e)
	}
	for _, c := range []api.Carting{
		{}, {Sown: 110}, {Sown: 110, Loads: []int{45}}, {Sown: 110, Loads: []int{45, 35, 0}}, {Sown: 99, Loads: []int{45, 35}}, {Sown: 121, Loads: []int{50, 40}},
		{Sown: 110, Loads: []int{35, 45}}, {Sown: 110, Loads: []int{39, 40}}, {Sown: 110, Loads: []int{51, 35}}, {Sown: 120, Loads: []int{40, 30}},
		{Sown: math.MinInt, Loads: []int{45, 35}}, {Sown: 110, Loads: []int{math.MinInt, math.MaxInt}},
	} {
		if e := sheaf.CheckCarting(example(), 2, c); e != api.ErrCarting {
			t.Error(c, e)
		}
		if n, e := sheaf.Left(example(), c, 30, 2); e != api.ErrCarting || n != 0 {
			t.Error(c, n, e)
		}
		if is, e := sheaf.Truly(example(), c, 30, 2); e != api.ErrCarting || is {
			t.Error(c, is, e)
		}
	}
	p := api.Plot{Sown: api.Range{Lo: 5, Hi: 5}, Loads: []api.Load{{Source: 1, Hour: 9, Sheaves: api.Range{Lo: 3, Hi: 6}}}}
	for number, want := range map[int]api.Errno{5: api.OK, 6: api.ErrCarting} {
		if e := sheaf.CheckCarting(p, 0, api.Carting{Sown: 5, Loads: []int{number}}); e != want {
			t.Error("more carted than sown:", number, e)
		}
	}
}

// TestOrder: loads of one hour are carted by Source, and numbers are given by Source, whatever the hours are.
func TestOrder(t *testing.T) {
	p := api.Plot{
		Sown: api.Range{Lo: 20, Hi: 20},
		Loads: []api.Load{
			{Source: 1, Hour: 50, Sheaves: api.Range{Lo: 1, Hi: 1}}, {Source: 2, Hour: 40, Sheaves: api.Range{Lo: 2, Hi: 2}},
			{Source: 3, Hour: 50, Sheaves: api.Range{Lo: 4, Hi: 4}}, {Source: 4, Hour: 30, Sheaves: api.Range{Lo: 8, Hi: 8}},
		},
	}
	want := api.Carting{Sown: 20, Loads: []int{1, 2, 4, 8}}
	for _, high := range []bool{false, true} {
		if c, e := sheaf.Attain(p, 40, 0, high); e != api.OK || c.Sown != want.Sown || !slices.Equal(c.Loads, want.Loads) {
			t.Error(c, e)
		}
	}
	for hour, left := range map[int]int{29: 20, 30: 12, 40: 10, 49: 10, 50: 5, 51: 5} {
		if n, e := sheaf.Left(p, want, hour, 0); e != api.OK || n != left {
			t.Error(hour, n, e)
		}
	}
	for source, number := range map[int]int{1: 1, 2: 2, 3: 4, 4: 8} {
		if r, e := sheaf.Carted(p, source, 0); e != api.OK || r != (api.Range{Lo: number, Hi: number}) {
			t.Error(source, r, e)
		}
	}
}

func TestMoved(t *testing.T) {
	moved, still := 0, 0
	for _, p := range randomPlots(600) {
		for known := range lastDay + 1 {
			for source := range 22 {
				want, none := movedBy(p, source, known)
				got, e := sheaf.Moved(p, source, known)
				if none && e != api.ErrNone || !none && e != api.OK || !slices.Equal(got, want) {
					t.Fatal(p, source, known, got, want, e)
				}
				moved += len(got)
				if !none && len(got) == 0 {
					still++
				}
			}
		}
	}
	if moved < 100 || still < 100 {
		t.Error("too few cases:", moved, still)
	}
	unknown := api.Plot{Sown: api.Range{Lo: 9, Hi: 9}, Loads: []api.Load{{Source: 1, Hour: 10, Sheaves: api.Range{Lo: 2, Hi: 2}}, {Source: 2, Hour: 20, Known: 5}}}
	if l, e := sheaf.Moved(unknown, 1, 0); e != api.OK || !slices.Equal(l, []int{10, 20}) {
		t.Error("the hour of a load that does not count:", l, e)
	}
}

// movedBy returns what Moved must return, by Stood with and without the source; true: there is none.
func movedBy(p api.Plot, source, known int) ([]int, bool) {
	less, e := sheaf.Without(p, source)
	if e != api.OK {
		return nil, true
	}
	var want []int
	for hour := range 100 {
		if !slices.ContainsFunc(p.Loads, func(l api.Load) bool { return l.Hour == hour }) {
			continue
		}
		a, e := sheaf.Stood(p, hour, known)
		b, f := sheaf.Stood(less, hour, known)
		if a != b || e != f {
			want = append(want, hour)
		}
	}
	return want, false
}
