package family_test

import (
	"math"
	"slices"
	"testing"

	"leazing/api"
	"leazing/family"
)

// P3.1: what is valid, each limit at its edge and beyond it; and kin with one more bond.

// edges has numbers around the limits of a range, and whether they are within it.
func edges(lo, hi int) map[int]bool {
	return map[int]bool{lo: true, hi: true, lo - 1: false, hi + 1: false, math.MinInt: false, math.MaxInt: false}
}

func aStay() api.Stay {
	return api.Stay{Source: 7, Person: 8, Family: 9, From: from(10, 20), Till: from(30, 40), Known: 5, Until: 50}
}

func aBond() api.Bond {
	return api.Bond{Source: 7, Family: 9, With: 8, From: from(10, 20), Till: from(30, 40), Known: 5, Until: 50}
}

func anAway() api.Away {
	return api.Away{Source: 7, Person: 8, By: 9, From: from(10, 20), Till: from(30, 40), Known: 5, Until: 50}
}

func anOffence() api.Offence {
	return api.Offence{Source: 7, Person: 8, Day: 9, Known: 5, Until: 50}
}

// checkKin wants a kin of one entry to be valid, or not, and so the entry alone.
func checkKin(t *testing.T, k api.Kin, valid bool) {
	t.Helper()
	whole, alone := api.OK, api.OK
	var got, wrong api.Errno
	switch {
	case len(k.Stays) > 0:
		got, wrong = family.CheckStay(k.Stays[0]), api.ErrStay
	case len(k.Bonds) > 0:
		got, wrong = family.CheckBond(k.Bonds[0]), api.ErrBond
		if _, e := family.Bonded(api.Kin{}, k.Bonds[0]); e != got {
			t.Errorf("Bonded, %+v: error %d", k, e)
		}
	case len(k.Aways) > 0:
		got, wrong = family.CheckAway(k.Aways[0]), api.ErrAway
	default:
		got, wrong = family.CheckOffence(k.Offences[0]), api.ErrOffence
	}
	if !valid {
		whole, alone = api.ErrKin, wrong
	}
	if got != alone {
		t.Errorf("%+v: error %d, want %d", k, got, alone)
	}
	if e := family.Check(k); e != whole {
		t.Errorf("%+v: error %d, want %d", k, e, whole)
	}
}

// checkField wants a field of an entry to be valid within its edges only.
func checkField(t *testing.T, field func(k *api.Kin) *int, k api.Kin, lo, hi int) {
	t.Helper()
	for n, valid := range edges(lo, hi) {
		other := cloned(k)
		*field(&other) = n
		checkKin(t, other, valid)
	}
}

func ofStay(s api.Stay) api.Kin       { return api.Kin{Stays: []api.Stay{s}} }
func ofBond(b api.Bond) api.Kin       { return api.Kin{Bonds: []api.Bond{b}} }
func ofAway(a api.Away) api.Kin       { return api.Kin{Aways: []api.Away{a}} }
func ofOffence(o api.Offence) api.Kin { return api.Kin{Offences: []api.Offence{o}} }

// ones returns kin of one entry, of each kind.
func ones() []api.Kin {
	return []api.Kin{ofStay(aStay()), ofBond(aBond()), ofAway(anAway()), ofOffence(anOffence())}
}

// source, since, until, begins and ends return fields of the only entry of a kin.
func source(k *api.Kin) *int {
	switch {
	case len(k.Stays) > 0:
		return &k.Stays[0].Source
	case len(k.Bonds) > 0:
		return &k.Bonds[0].Source
	case len(k.Aways) > 0:
		return &k.Aways[0].Source
	}
	return &k.Offences[0].Source
}

func times(k *api.Kin) (since, until *int) {
	switch {
	case len(k.Stays) > 0:
		return &k.Stays[0].Known, &k.Stays[0].Until
	case len(k.Bonds) > 0:
		return &k.Bonds[0].Known, &k.Bonds[0].Until
	case len(k.Aways) > 0:
		return &k.Aways[0].Known, &k.Aways[0].Until
	}
	return &k.Offences[0].Known, &k.Offences[0].Until
}

func bounds(k *api.Kin) (from, till *api.Range) {
	switch {
	case len(k.Stays) > 0:
		return &k.Stays[0].From, &k.Stays[0].Till
	case len(k.Bonds) > 0:
		return &k.Bonds[0].From, &k.Bonds[0].Till
	}
	return &k.Aways[0].From, &k.Aways[0].Till
}

func TestCheckNumbers(t *testing.T) {
	for _, k := range ones() {
		checkKin(t, k, true)
		checkField(t, source, k, 1, 99999)
	}
	stay, bond, away, offence := ofStay(aStay()), ofBond(aBond()), ofAway(anAway()), ofOffence(anOffence())
	checkField(t, func(k *api.Kin) *int { return &k.Stays[0].Person }, stay, 1, 999)
	checkField(t, func(k *api.Kin) *int { return &k.Stays[0].Family }, stay, 1, 99)
	bond.Bonds[0].With = 1
	checkField(t, func(k *api.Kin) *int { return &k.Bonds[0].Family }, bond, 2, 99)
	for _, f := range list(2, 3, 50, 99) {
		bond.Bonds[0].Family = f
		checkField(t, func(k *api.Kin) *int { return &k.Bonds[0].With }, bond, 1, f-1)
	}
	checkField(t, func(k *api.Kin) *int { return &k.Aways[0].Person }, away, 1, 999)
	checkField(t, func(k *api.Kin) *int { return &k.Aways[0].By }, away, 0, 999)
	for by, valid := range map[int]bool{0: true, 7: true, 8: false, 9: true} {
		away.Aways[0].By = by
		checkKin(t, away, valid)
	}
	checkField(t, func(k *api.Kin) *int { return &k.Offences[0].Person }, offence, 1, 999)
	checkField(t, func(k *api.Kin) *int { return &k.Offences[0].Day }, offence, 0, 4166)
}

func TestCheckTimesOfEntries(t *testing.T) {
	for _, k := range ones() {
		since, until := times(&k)
		for _, c := range []struct {
			since, until int
			valid        bool
		}{
			{0, 0, true}, {4166, 0, true}, {-1, 0, false}, {4167, 0, false}, {math.MaxInt, 0, false}, {math.MinInt, 0, false},
			{0, 1, true}, {5, 6, true}, {5, 5, false}, {5, 4, false}, {0, -1, false}, {5, -1, false}, {4165, 4166, true}, {4166, 4166, false}, {4166, 4167, false},
			{0, 4166, true}, {0, 4167, false}, {0, math.MaxInt, false}, {0, math.MinInt, false}, {-5, -4, false},
		} {
			*since, *until = c.since, c.until
			checkKin(t, k, c.valid)
		}
	}
}

func TestCheckSpans(t *testing.T) {
	for _, k := range ones()[:3] {
		begins, ends := bounds(&k)
		for _, c := range []struct {
			a, b, c, d int
			valid      bool
		}{
			{0, 0, 0, 0, true}, {4166, 4166, 4166, 4166, true}, {0, 4166, 4166, 4166, true}, {0, 0, 0, 4166, true}, {5, 5, 5, 5, true}, {1, 5, 5, 9, true}, {1, 2, 3, 4, true},
			{-1, 0, 0, 0, false}, {0, 0, 0, 4167, false}, {2, 1, 5, 6, false}, {1, 2, 6, 5, false}, {1, 5, 4, 9, false}, {5, 6, 1, 2, false},
			{math.MinInt, 1, 2, 3, false}, {1, 2, 3, math.MaxInt, false}, {math.MinInt, math.MinInt, math.MinInt, math.MinInt, false}, {math.MaxInt, math.MaxInt, math.MaxInt, math.MaxInt, false},
			{4166, 4167, 4167, 4167, false}, {-2, -1, 3, 4, false},
		} {
			*begins, *ends = from(c.a, c.b), from(c.c, c.d)
			checkKin(t, k, c.valid)
		}
	}
}

// many returns a kin with so many stays, bonds, aways and offences, with the sources 2, 4, 6 and so on of each kind.
func many(stays, bonds, aways, offences int) api.Kin {
	var k api.Kin
	for i := range stays {
		k.Stays = append(k.Stays, api.Stay{Source: 2*i + 2, Person: i + 1, Family: i%99 + 1, Till: at(50)})
	}
	for i := range bonds {
		k.Bonds = append(k.Bonds, api.Bond{Source: 2*i + 2, Family: i%98 + 2, With: i%98 + 1, Till: at(50)})
	}
	for i := range aways {
		k.Aways = append(k.Aways, api.Away{Source: 2*i + 2, Person: i + 1, By: i + 2, Till: at(50)})
	}
	for i := range offences {
		k.Offences = append(k.Offences, api.Offence{Source: 2*i + 2, Person: i + 1})
	}
	return k
}

func TestCheck(t *testing.T) {
	check := func(k api.Kin, want api.Errno) {
		t.Helper()
		if e := family.Check(k); e != want {
			t.Errorf("Check: error %d, want %d", e, want)
		}
	}
	check(api.Kin{}, api.OK)
	check(api.Kin{Stays: []api.Stay{}, Bonds: []api.Bond{}, Aways: []api.Away{}, Offences: []api.Offence{}}, api.OK)
	check(example(), api.OK)
	check(many(60, 60, 60, 60), api.OK) // sources of different kinds may be the same
	check(many(61, 0, 0, 0), api.ErrKin)
	check(many(0, 61, 0, 0), api.ErrKin)
	check(many(0, 0, 61, 0), api.ErrKin)
	check(many(0, 0, 0, 61), api.ErrKin)
	check(api.Kin{Offences: make([]api.Offence, 1000000)}, api.ErrKin)
	for _, source := range []int{0, 1, 2, 4, 100000} {
		for kind := range 4 {
			k := many(3, 3, 3, 3)
			*[]*int{&k.Stays[2].Source, &k.Bonds[2].Source, &k.Aways[2].Source, &k.Offences[2].Source}[kind] = source
			check(k, api.ErrKin)
		}
	}
	for kind := range 4 {
		k := many(3, 3, 3, 3)
		*[]*int{&k.Stays[1].Person, &k.Bonds[1].Family, &k.Aways[1].Person, &k.Offences[1].Person}[kind] = 0
		check(k, api.ErrKin)
	}
}

func TestBonded(t *testing.T) {
	bonded := func(k api.Kin, source int, wantError api.Errno, wantSources ...int) {
		t.Helper()
		b := api.Bond{Source: source, Family: 5, With: 2, From: from(1, 2), Till: from(3, 4), Known: 6, Until: 7}
		got, e := family.Bonded(k, b)
		if !slices.Equal(sources(ofBonds(got)), wantSources) || e != wantError {
			t.Errorf("Bonded of %d: %+v, error %d, want %v, error %d", source, got, e, wantSources, wantError)
		}
		if e == api.OK && !slices.Contains(got.Bonds, b) {
			t.Errorf("Bonded of %d: %+v", source, got)
		}
		got.Bonds = slices.DeleteFunc(got.Bonds, func(c api.Bond) bool { return c.Source == source })
		if e == api.OK && !sameKin(got, k) || e != api.OK && !sameKin(got, api.Kin{}) {
			t.Errorf("Bonded of %d: the others are %+v", source, got)
		}
	}
	bonded(api.Kin{}, 1, api.OK, 1)
	bonded(api.Kin{}, 99999, api.OK, 99999)
	bonded(api.Kin{}, 0, api.ErrBond)
	bonded(many(4, 3, 4, 4), 1, api.OK, 1, 2, 4, 6)
	bonded(many(4, 3, 4, 4), 3, api.OK, 2, 3, 4, 6)
	bonded(many(4, 3, 4, 4), 5, api.OK, 2, 4, 5, 6)
	bonded(many(4, 3, 4, 4), 8, api.OK, 2, 4, 6, 8) // the source of a stay, an away and an offence
	for _, source := range list(2, 4, 6) {
		bonded(many(4, 3, 4, 4), source, api.ErrBond)
	}
	bonded(many(60, 60, 60, 60), 3, api.ErrLong)
	bonded(many(60, 60, 60, 60), 120, api.ErrBond) // named before ErrLong
	bonded(many(60, 60, 60, 60), 100000, api.ErrBond)
	bonded(many(61, 60, 0, 0), 100000, api.ErrKin)
	if got, e := family.Bonded(many(60, 59, 60, 60), aBond()); e != api.OK || len(got.Bonds) != 60 {
		t.Error(len(got.Bonds), e)
	}
}

func ofBonds(k api.Kin) api.Kin { return api.Kin{Bonds: k.Bonds} }

func TestDates(t *testing.T) {
	wantList(t, "no dates", nil, api.OK)(family.Dates(api.Kin{}))
	scenes(20, 300, func(s scene) {
		seen := map[int]bool{}
		for _, e := range s.k.Stays {
			seen[e.Known], seen[e.Until] = true, true
		}
		for _, e := range s.k.Bonds {
			seen[e.Known], seen[e.Until] = true, true
		}
		for _, e := range s.k.Aways {
			seen[e.Known], seen[e.Until] = true, true
		}
		for _, e := range s.k.Offences {
			seen[e.Known], seen[e.Until] = true, true
		}
		if !knownAtOnce(s.k) {
			delete(seen, 0)
		}
		var dates []int
		for day := range 4167 {
			if seen[day] {
				dates = append(dates, day)
			}
		}
		wantList(t, s.k, dates, api.OK)(family.Dates(s.k))
	})
	for _, k := range ones() {
		wantList(t, k, list(5, 50), api.OK)(family.Dates(k))
		since, until := times(&k)
		*since, *until = 4165, 4166
		wantList(t, k, list(4165, 4166), api.OK)(family.Dates(k))
		*since, *until = 4166, 0
		wantList(t, k, list(4166), api.OK)(family.Dates(k))
	}
}

// knownAtOnce tells whether something is known on the day 0.
func knownAtOnce(k api.Kin) bool {
	return !sameKin(counting(k, 0), api.Kin{})
}
