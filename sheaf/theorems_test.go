package sheaf_test

import (
	"fmt"
	"slices"
	"testing"

	"leazing/api"
	"leazing/sheaf"
)

// TestNoSheaf: P1.2 (and P2): what is reported is so by all true numbers.
func TestNoSheaf(t *testing.T) {
	seen := map[int]int{}
	eachSound(400, func(p api.Plot, known int, all []api.Carting) {
		for _, hour := range hoursTried {
			open, _ := sheaf.Open(p, hour, known)
			stood, _ := sheaf.Stood(p, hour, known)
			seen[open]++
			for _, c := range all {
				left := leftBy(p, c, hour, known)
				if !within(left, stood) {
					t.Fatal("what stood is not within Stood:", p, hour, known, c)
				}
				if open == api.Yes && (left > 0 || !isOpen(p, c, hour, known)) {
					t.Fatal("open with a sheaf, or shut:", p, hour, known, c)
				}
				if open == api.No && isOpen(p, c, hour, known) {
					t.Fatal("open, but reported not to be:", p, hour, known, c)
				}
			}
		}
	})
	if seen[api.Yes] == 0 || seen[api.No] == 0 {
		t.Error("too few answers:", seen)
	}
}

// TestAttained: P1.3: both ends of Stood are those of true numbers that Attain returns.
func TestAttained(t *testing.T) {
	check := func(p api.Plot, hour, known int) {
		stood, _ := sheaf.Stood(p, hour, known)
		clear, _ := sheaf.Clear(p, hour, known)
		var lefts []int
		for _, high := range []bool{false, true} {
			c, e := sheaf.Attain(p, hour, known, high)
			if e != api.OK || sheaf.CheckCarting(p, known, c) != api.OK {
				t.Fatal(p, hour, known, high, c, e)
			}
			n, e := sheaf.Left(p, c, hour, known)
			if e != api.OK {
				t.Fatal(p, hour, known, high, c, e)
			}
			lefts = append(lefts, n)
		}
		if lefts[0] != stood.Lo || lefts[1] != stood.Hi {
			t.Fatal(p, hour, known, stood, lefts)
		}
		if clear == api.Maybe && (lefts[0] != 0 || lefts[1] == 0) {
			t.Fatal(p, hour, known, clear, lefts)
		}
	}
	eachSound(1000, func(p api.Plot, known int, all []api.Carting) {
		for _, hour := range hoursTried {
			check(p, hour, known)
		}
	})
	for known := range 9 {
		for hour := range 60 {
			check(example(), hour, known)
		}
	}
}

// TestConflicts: P1.4: what Clash returns is a least contradiction, found from the greatest source on.
func TestConflicts(t *testing.T) {
	clashes := 0
	eachKnown(1500, func(p api.Plot, known int, all []api.Carting) {
		by, e := sheaf.Clash(p, known)
		if len(all) > 0 {
			if e != api.ErrSound || by != nil {
				t.Fatal(p, known, by, e)
			}
			return
		}
		clashes++
		if e != api.OK || !slices.Equal(by, clashOf(p, known)) || !contradict(p, known, by) {
			t.Fatal(p, known, by, e)
		}
		if e := sheaf.CheckClash(p, known, by); e != api.OK {
			t.Fatal(p, known, by, e)
		}
	})
	if clashes < 300 {
		t.Error("too few clashes:", clashes)
	}
}

// countingSources returns the sources of the loads and stands that count, rising.
func countingSources(p api.Plot, known int) []int {
	sources := []int{}
	for _, l := range countingLoads(p, known) {
		sources = append(sources, l.Source)
	}
	for _, s := range countingStands(p, known) {
		sources = append(sources, s.Source)
	}
	slices.Sort(sources)
	return sources
}

// clashOf leaves out what need not be there, from the greatest source to the least.
func clashOf(p api.Plot, known int) []int {
	left := countingSources(p, known)
	for i := len(left) - 1; i >= 0; i-- {
		less := slices.Delete(slices.Clone(left), i, i+1)
		if len(truths(p, known, less)) == 0 {
			left = less
		}
	}
	return left
}

// TestCheckClash: P1.4: every choice of loads and stands is accepted exactly if they contradict each other.
func TestCheckClash(t *testing.T) {
	accepted := 0
	eachKnown(60, func(p api.Plot, known int, all []api.Carting) {
		sources := countingSources(p, known)
		for choice := range 1 << len(sources) {
			by := []int{}
			for i, source := range sources {
				if choice>>i&1 == 1 {
					by = append(by, source)
				}
			}
			want := api.ErrSound
			if contradict(p, known, by) {
				want = api.OK
				accepted++
			}
			if e := sheaf.CheckClash(p, known, by); e != want {
				t.Fatal(p, known, by, e)
			}
		}
	})
	if accepted < 20 {
		t.Error("too few accepted:", accepted)
	}
	for _, by := range [][]int{{14, 11, 2}, {2, 2, 11, 14}, {2, 11, 14, 14}, {2, 11, 14, 22}, {2, 11, 14, 15}, {1, 2, 11, 14}, {0, 2, 11, 14}, {-1}, {21}, {2, 11}} {
		if e := sheaf.CheckClash(example(), 9, by); e != api.ErrSound {
			t.Error(by, e)
		}
	}
	if e := sheaf.CheckClash(example(), 8, []int{2, 11, 14}); e != api.ErrSound {
		t.Error("a stand that does not count:", e)
	}
}

// TestOneLoad: P1.4: one load alone is accepted exactly if its least number is greater than the greatest one of Sown.
func TestOneLoad(t *testing.T) {
	for sown := range 12 {
		for least := range 12 {
			p := api.Plot{
				Sown:  api.Range{Lo: sown / 2, Hi: sown},
				Loads: []api.Load{{Source: 4, Hour: 9, Sheaves: api.Range{Lo: least, Hi: least + 3}}, {Source: 7, Hour: 2, Sheaves: api.Range{Lo: 1, Hi: 2}}},
			}
			e := sheaf.CheckClash(p, 0, []int{4})
			if (e == api.OK) != (least > sown) {
				t.Error(sown, least, e)
			}
		}
	}
	most := api.Plot{Sown: api.Range{Hi: 9999}, Loads: []api.Load{{Source: 1, Sheaves: api.Range{Lo: 10000, Hi: 10000}}}}
	if l, e := sheaf.Clash(most, 0); e != api.OK || !slices.Equal(l, []int{1}) {
		t.Error(l, e)
	}
}

// TestMany: P1.4: a contradiction of the most loads and stands that there may be.
func TestMany(t *testing.T) {
	p := api.Plot{Sown: api.Range{Lo: 10000, Hi: 10000}}
	for i := range api.MaxLoads {
		p.Loads = append(p.Loads, api.Load{Source: i + 1, Hour: api.MaxHour - i, Sheaves: api.Range{Lo: 0, Hi: 166}})
		p.Stands = append(p.Stands, api.Stand{Source: 100 + i, Hour: i, Sheaves: api.Range{Lo: 0, Hi: 10000}})
	}
	if r, e := sheaf.Stood(p, api.MaxHour, 0); e != api.OK || r != (api.Range{Lo: 10000 - 60*166, Hi: 10000}) {
		t.Error(r, e)
	}
	p.Stands[59] = api.Stand{Source: 159, Hour: api.MaxHour}
	want := []int{}
	for i := range api.MaxLoads {
		want = append(want, i+1)
	}
	want = append(want, 159)
	if l, e := sheaf.Clash(p, 0); e != api.OK || !slices.Equal(l, want) {
		t.Error(l, e)
	}
	if e := sheaf.CheckClash(p, 0, want); e != api.OK {
		t.Error(e)
	}
}

// TestOnceClear: P1.5: neither end of Stood grows, Clear stays Yes, and First has the hours from which the field may be clear.
func TestOnceClear(t *testing.T) {
	eachSound(600, func(p api.Plot, known int, all []api.Carting) {
		first, _ := sheaf.First(p, known)
		before, clear := api.Range{Lo: 10000, Hi: 10000}, api.No
		for _, hour := range hoursTried {
			r, _ := sheaf.Stood(p, hour, known)
			if r.Lo > before.Lo || r.Hi > before.Hi {
				t.Fatal("it grows:", p, hour, known, before, r)
			}
			a, _ := sheaf.Clear(p, hour, known)
			if clear == api.Yes && a != api.Yes {
				t.Fatal("no longer clear:", p, hour, known)
			}
			if (a == api.Yes) != (hour >= first.Hi) || (a == api.No) != (hour < first.Lo) {
				t.Fatal("First does not agree with Clear:", p, hour, known, first, a)
			}
			before, clear = r, a
		}
	})
}

// TestNarrower: P1.6: a stand that is right by some true numbers makes nothing wider.
func TestNarrower(t *testing.T) {
	eachSound(250, func(p api.Plot, known int, all []api.Carting) {
		for i, hour := range []int{0, 12, 33, 36, 60, 99999} {
			c := all[(7*i+len(all)/2)%len(all)]
			left := leftBy(p, c, hour, known)
			s := api.Stand{Source: 50, Hour: hour, Sheaves: api.Range{Lo: max(0, left-i%2), Hi: left + i%3}, Known: known}
			q, e := sheaf.Stands(p, s)
			if e != api.OK {
				t.Fatal(p, s, e)
			}
			checkNarrower(t, p, q, known)
		}
	})
}

func checkNarrower(t *testing.T, p, q api.Plot, known int) {
	t.Helper()
	if sound, e := sheaf.Sound(q, known); e != api.OK || !sound {
		t.Fatal("no longer sound:", q, known, e)
	}
	narrower := func(a, b api.Range) bool { return a.Lo <= b.Lo && b.Hi <= a.Hi && b.Lo <= b.Hi }
	for _, hour := range hoursTried {
		a, _ := sheaf.Stood(p, hour, known)
		if b, e := sheaf.Stood(q, hour, known); e != api.OK || !narrower(a, b) {
			t.Fatal("Stood is wider:", q, hour, known, a, b)
		}
		for name, answer := range map[string]func(api.Plot, int, int) (int, api.Errno){"Clear": sheaf.Clear, "Open": sheaf.Open} {
			a, _ := answer(p, hour, known)
			if b, e := answer(q, hour, known); e != api.OK || a != api.Maybe && a != b {
				t.Fatal("another answer:", name, q, hour, known, a, b)
			}
		}
	}
	for _, l := range countingLoads(p, known) {
		a, _ := sheaf.Carted(p, l.Source, known)
		if b, e := sheaf.Carted(q, l.Source, known); e != api.OK || !narrower(a, b) {
			t.Fatal("Carted is wider:", q, l.Source, known, a, b)
		}
	}
}

// TestAsKnown: P1.7 (and P9): what becomes known later changes nothing that is as known on a day.
func TestAsKnown(t *testing.T) {
	for _, p := range append(randomPlots(150), example()) {
		dates, e := sheaf.Dates(p)
		if e != api.OK {
			t.Fatal(e)
		}
		for known := range 11 {
			now := asKnown(p, known)
			if before := asKnown(upTo(p, known), known); now != before {
				t.Fatalf("%v, known %d: %s, but %s with what is known later", p, known, before, now)
			}
			last := -1
			for _, day := range dates {
				if day <= known {
					last = day
				}
			}
			if last >= 0 && now != asKnown(p, last) {
				t.Fatalf("%v: the days %d and %d differ", p, last, known)
			}
		}
	}
}

// upTo returns the plot as it was on a day, when nothing was known of what becomes known, or ends, later.
func upTo(p api.Plot, day int) api.Plot {
	var q api.Plot
	q.Sown, q.Geese = p.Sown, p.Geese
	until := func(until int) int {
		if until > day {
			return 0
		}
		return until
	}
	for _, l := range p.Loads {
		if l.Known <= day {
			l.Until = until(l.Until)
			q.Loads = append(q.Loads, l)
		}
	}
	for _, s := range p.Stands {
		if s.Known <= day {
			s.Until = until(s.Until)
			q.Stands = append(q.Stands, s)
		}
	}
	for _, s := range p.Spells {
		if s.Known <= day {
			s.Until = until(s.Until)
			q.Spells = append(q.Spells, s)
		}
	}
	return q
}

// asKnown returns all that is as known on a day, as a text.
func asKnown(p api.Plot, known int) string {
	var all []any
	add := func(x any, e api.Errno) { all = append(all, x, e) }
	add(two(sheaf.Sound(p, known)))
	add(two(sheaf.Clash(p, known)))
	add(two(sheaf.First(p, known)))
	for source := range 22 {
		add(two(sheaf.Carted(p, source, known)))
	}
	for _, hour := range hoursTried {
		add(two(sheaf.Stood(p, hour, known)))
		add(two(sheaf.Clear(p, hour, known)))
		add(two(sheaf.Shut(p, hour, known)))
		add(two(sheaf.Open(p, hour, known)))
		for _, high := range []bool{false, true} {
			c, e := sheaf.Attain(p, hour, known, high)
			add(c, e)
			add(nil, sheaf.CheckCarting(p, known, c))
			add(two(sheaf.Left(p, c, hour, known)))
			add(two(sheaf.Truly(p, c, hour, known)))
		}
	}
	return fmt.Sprint(all)
}

// TestTimes: P1.7: something counts from its day Known on, up to the day before its Until.
func TestTimes(t *testing.T) {
	p := api.Plot{
		Sown:   api.Range{Lo: 10, Hi: 10},
		Loads:  []api.Load{{Source: 1, Hour: 9, Sheaves: api.Range{Lo: 2, Hi: 4}, Known: 3, Until: 6}},
		Stands: []api.Stand{{Source: 2, Hour: 9, Sheaves: api.Range{Lo: 7, Hi: 10}, Known: 4, Until: 5}},
	}
	for known, want := range map[int]api.Range{0: {Lo: 10, Hi: 10}, 2: {Lo: 10, Hi: 10}, 3: {Lo: 6, Hi: 8}, 4: {Lo: 7, Hi: 8}, 5: {Lo: 6, Hi: 8}, 6: {Lo: 10, Hi: 10}, 4166: {Lo: 10, Hi: 10}} {
		if r, e := sheaf.Stood(p, 9, known); e != api.OK || r != want {
			t.Error(known, r, e)
		}
	}
}
