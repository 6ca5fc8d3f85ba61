package family_test

import (
	"math/rand"
	"reflect"
	"slices"
	"testing"

	"leazing/api"
	"leazing/family"
)

// P3.2 to P3.6: what holds between the functions, told by their results alone.

// must returns what a call returns without an error.
func must(t *testing.T) func(l []int, e api.Errno) []int {
	return func(l []int, e api.Errno) []int {
		t.Helper()
		if e != api.OK {
			t.Fatal("error", e)
		}
		return l
	}
}

func mustBe[T any](t *testing.T, x T, e api.Errno) T {
	t.Helper()
	if e != api.OK {
		t.Fatal("error", e)
	}
	return x
}

// TestForWhom: P3.2.
func TestForWhom(t *testing.T) {
	scenes(30, 200, func(s scene) {
		for _, day := range s.days() {
			for _, person := range s.persons() {
				families := must(t)(family.Families(s.k, person, day, s.known))
				gleans, e := family.Gleans(s.k, person, day, s.known)
				mustBe(t, gleans, e)
				attained := map[int]bool{}
				for _, terms := range s.all {
					f, e := family.Truly(s.k, terms, person, day, s.known)
					attained[mustBe(t, f, e)] = true
					if !slices.Contains(families, f) || gleans == api.Yes && f == 0 || gleans == api.No && f != 0 {
						t.Fatalf("%+v: %d gleans for %d, families %v, gleans %d", s.k, person, f, families, gleans)
					}
				}
				for _, f := range families {
					if !attained[f] {
						t.Fatalf("%+v: %d gleans for %d by no true terms", s.k, person, f)
					}
					if f == 0 {
						continue
					}
					terms, e := family.Show(s.k, person, f, day, s.known)
					want(t, s.k, f, e)(family.Truly(s.k, terms, person, day, s.known))
				}
			}
		}
	})
}

// TestAllAtOnce: P3.3.
func TestAllAtOnce(t *testing.T) {
	scenes(31, 300, func(s scene) {
		for _, day := range s.days() {
			for _, f := range s.families() {
				may := must(t)(family.May(s.k, f, day, s.known))
				sure := must(t)(family.Sure(s.k, f, day, s.known))
				want(t, s.k, from(len(sure), len(may)), api.OK)(family.Heads(s.k, f, day, s.known))
				most, e := family.Attain(s.k, f, day, s.known, true)
				wantList(t, s.k, may, e)(family.Count(s.k, most, f, day, s.known))
				least, e := family.Attain(s.k, f, day, s.known, false)
				wantList(t, s.k, sure, e)(family.Count(s.k, least, f, day, s.known))
			}
		}
	})
}

// answers returns all that is told of a kin as known on a day; moved are the sources by which somebody may move.
func answers(s scene, k api.Kin, known int, moved []int) []any {
	var all []any
	add := func(x any, e api.Errno) {
		if l, ok := x.([]int); ok && len(l) == 0 {
			x = nil
		}
		all = append(all, x, e)
	}
	for i := 0; i < dayCount; i += 2 {
		day := s.day + i
		for _, person := range s.persons() {
			add(two(family.Homes(k, person, day, known)))
			add(two(family.Families(k, person, day, known)))
			add(two(family.Gleans(k, person, day, known)))
			add(two(family.For(k, person, s.family, day, known)))
			add(two(family.Show(k, person, s.family, day, known)))
		}
		for _, f := range s.families() {
			add(two(family.Leads(k, f, day, known)))
			add(two(family.Sure(k, f, day, known)))
			add(two(family.May(k, f, day, known)))
			add(two(family.Heads(k, f, day, known)))
			add(two(family.Attain(k, f, day, known, i%4 == 0)))
		}
		for _, source := range moved {
			add(two(family.Moved(k, source, day, known)))
		}
	}
	return all
}

// TestAsKnown: P3.4: what becomes known later changes nothing, and nothing changes between two of Dates.
func TestAsKnown(t *testing.T) {
	r := rand.New(rand.NewSource(32))
	scenes(32, 120, func(s scene) {
		moved := sources(s.k)
		days := must(t)(family.Dates(s.k))
		if s.lot.source > 99000 {
			return // no sources are left behind these
		}
		for i, date := range days {
			told := answers(s, s.k, date, moved)
			last := 4166
			if i+1 < len(days) {
				last = days[i+1] - 1
			}
			for _, day := range list(date+1, last) {
				if day <= last && !reflect.DeepEqual(answers(s, s.k, day, moved), told) {
					t.Fatalf("%+v: as known on %d not as on %d", s.k, day, date)
				}
			}
			if more := withLater(r, s, date+1); !reflect.DeepEqual(answers(s, more, date, moved), told) {
				t.Fatalf("%+v: what becomes known later changes what is known on %d: %+v", s.k, date, more)
			}
		}
		if len(days) > 0 && days[0] > 0 {
			nothing := answers(s, api.Kin{}, 0, nil)
			if !reflect.DeepEqual(answers(s, s.k, days[0]-1, nil), nothing) {
				t.Fatalf("%+v: something is known before %d", s.k, days[0])
			}
		}
	})
}

// withLater returns the kin with more of each kind, that become known on a day.
func withLater(r *rand.Rand, s scene, known int) api.Kin {
	k := cloned(s.k)
	source := s.source + 100
	stay, away, offence, bond := randomStay(r, s.lot, source), randomAway(r, s.lot, source), randomOffence(r, s.lot, source), randomBond(r, s.lot, source)
	stay.Known, away.Known, offence.Known, bond.Known = known, known, known, known
	stay.Until, away.Until, offence.Until, bond.Until = 0, 0, 0, 0
	k.Stays, k.Bonds, k.Aways, k.Offences = append(k.Stays, stay), append(k.Bonds, bond), append(k.Aways, away), append(k.Offences, offence)
	return k
}

// TestMovedAndChanged: P3.4: just the persons of Moved have other Families without a source.
func TestMovedAndChanged(t *testing.T) {
	scenes(33, 200, func(s scene) {
		for _, day := range s.days() {
			for _, source := range sources(s.k) {
				moved := must(t)(family.Moved(s.k, source, day, s.known))
				for _, person := range s.persons() {
					before := must(t)(family.Families(s.k, person, day, s.known))
					after := must(t)(family.Families(lessOne(s.k, source), person, day, s.known))
					if slices.Equal(before, after) == slices.Contains(moved, person) {
						t.Fatalf("%+v: without %d %d gleans for %v, before for %v; moved %v", s.k, source, person, after, before, moved)
					}
				}
			}
			for later := range knownCount {
				changed := must(t)(family.Changed(s.k, day, s.known, later))
				wantList(t, s.k, changed, api.OK)(family.Changed(s.k, day, later, s.known))
				for _, person := range s.persons() {
					before := must(t)(family.Families(s.k, person, day, s.known))
					after := must(t)(family.Families(s.k, person, day, later))
					if slices.Equal(before, after) == slices.Contains(changed, person) {
						t.Fatalf("%+v: later %d gleans for %v, before for %v; changed %v", s.k, person, after, before, changed)
					}
				}
			}
		}
	})
}

// TestNarrower: P3.5.
func TestNarrower(t *testing.T) {
	r := rand.New(rand.NewSource(34))
	fewer := 0
	scenes(34, 500, func(s scene) {
		k := cloned(s.k)
		narrow := func(begins, ends *api.Range) {
			for _, bounds := range []*api.Range{begins, ends} {
				if r.Intn(3) == 0 {
					bounds.Lo += r.Intn(bounds.Hi - bounds.Lo + 1)
				}
				if r.Intn(3) == 0 {
					bounds.Hi -= r.Intn(bounds.Hi - bounds.Lo + 1)
				}
			}
		}
		for i := range k.Stays {
			narrow(&k.Stays[i].From, &k.Stays[i].Till)
		}
		for i := range k.Bonds {
			narrow(&k.Bonds[i].From, &k.Bonds[i].Till)
		}
		for i := range k.Aways {
			narrow(&k.Aways[i].From, &k.Aways[i].Till)
		}
		for _, day := range s.days() {
			fewer += checkNarrower(t, s, k, day)
		}
	})
	if fewer < 1000 {
		t.Error("too little was narrower:", fewer)
	}
}

// checkNarrower checks that a kin of narrower ranges tells no more than the scene, and returns how much less it tells.
func checkNarrower(t *testing.T, s scene, k api.Kin, day int) int {
	fewer := 0
	within := func(some, all []int) {
		t.Helper()
		for _, n := range some {
			if !slices.Contains(all, n) {
				t.Fatalf("%+v: %v of %+v has more than %v", k, some, s.k, all)
			}
		}
		fewer += len(all) - len(some)
	}
	for _, person := range s.persons() {
		within(must(t)(family.Homes(k, person, day, s.known)), must(t)(family.Homes(s.k, person, day, s.known)))
		within(must(t)(family.Families(k, person, day, s.known)), must(t)(family.Families(s.k, person, day, s.known)))
		gleans, e := family.Gleans(s.k, person, day, s.known)
		if mustBe(t, gleans, e) != api.Maybe {
			want(t, s.k, gleans, api.OK)(family.Gleans(k, person, day, s.known))
		}
		for _, f := range s.families() {
			is, e := family.For(s.k, person, f, day, s.known)
			if mustBe(t, is, e) != api.Maybe {
				want(t, s.k, is, api.OK)(family.For(k, person, f, day, s.known))
			}
		}
	}
	for _, f := range s.families() {
		within(must(t)(family.Leads(k, f, day, s.known)), must(t)(family.Leads(s.k, f, day, s.known)))
		wide, e := family.Heads(s.k, f, day, s.known)
		mustBe(t, wide, e)
		heads, e := family.Heads(k, f, day, s.known)
		if mustBe(t, heads, e); heads.Lo < wide.Lo || heads.Hi > wide.Hi {
			t.Fatalf("%+v: heads %v of %+v were %v", k, heads, s.k, wide)
		}
	}
	return fewer
}

// TestOneFamily: P3.6.
func TestOneFamily(t *testing.T) {
	bonded := 0
	scenes(35, 500, func(s scene) {
		for _, day := range s.days() {
			seen := map[int]bool{}
			for _, f := range s.families() {
				for _, person := range must(t)(family.Sure(s.k, f, day, s.known)) {
					if seen[person] || !slices.Contains(s.staying(), person) {
						t.Fatalf("%+v: %d is in Sure twice, or of no stay", s.k, person)
					}
					seen[person] = true
				}
				if !surelyBonded(s, f, day) {
					continue
				}
				bonded++
				wantList(t, s.k, nil, api.OK)(family.May(s.k, f, day, s.known))
				want(t, s.k, api.Range{}, api.OK)(family.Heads(s.k, f, day, s.known))
			}
			if len(seen) > len(s.staying()) {
				t.Fatalf("%+v: %d persons are in Sure", s.k, len(seen))
			}
		}
	})
	if bonded < 500 {
		t.Error("too few bonds:", bonded)
	}
}

// surelyBonded tells whether by all true terms that of some bond of a family has the day.
func surelyBonded(s scene, f, day int) bool {
	return !slices.ContainsFunc(s.all, func(terms api.Times) bool {
		for i, b := range s.count.Bonds {
			if b.Family == f && within(terms.Bonds[i], day) {
				return false
			}
		}
		return true
	})
}
