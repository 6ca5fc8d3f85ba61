package family_test

import (
	"math/rand"
	"slices"
	"strconv"
	"testing"

	"leazing/api"
	"leazing/family"
)

// P3.1 to P3.3: cases at the edges which the chapter names, one by one, and kin at the limits.

// lives, leaves and joins return a stay, an away and a bond that are known at once.
func lives(source, person, f int, begins, ends api.Range) api.Stay {
	return api.Stay{Source: source, Person: person, Family: f, From: begins, Till: ends}
}

func leaves(source, person, by int, begins, ends api.Range) api.Away {
	return api.Away{Source: source, Person: person, By: by, From: begins, Till: ends}
}

func joins(source, f, with int, begins, ends api.Range) api.Bond {
	return api.Bond{Source: source, Family: f, With: with, From: begins, Till: ends}
}

func TestFirstAndLastDays(t *testing.T) {
	k := api.Kin{
		Stays:    []api.Stay{lives(1, 999, 99, at(0), at(4166)), lives(99999, 1, 1, at(4166), at(4166))},
		Offences: []api.Offence{{Source: 99999, Person: 999, Day: 4164}},
	}
	for day, home := range map[int]int{0: 99, 1: 99, 4165: 99, 4166: 0} {
		wantList(t, day, list(home), api.OK)(family.Homes(k, 999, day, 0))
		wantList(t, day, list(0), api.OK)(family.Homes(k, 1, day, 4166)) // begins and ends on one day: has none
	}
	for offence, free := range map[int][]bool{0: {true, false, true, true, true}, 4164: {true, true, true, true, false}, 4165: {true, true, true, true, true}, 4166: {true, true, true, true, true}} {
		k.Offences[0].Day = offence
		for i, day := range list(0, 1, 2, 4164, 4165) {
			families := list(99)
			if !free[i] {
				families = list(0)
			}
			wantList(t, day, families, api.OK)(family.Families(k, 999, day, 0))
		}
	}
}

// TestEndsMeet: spans whose bounds are the same, or meet, around them.
func TestEndsMeet(t *testing.T) {
	for _, c := range []struct {
		begins, ends api.Range
		homes        map[int][]int
	}{
		{at(5), at(5), map[int][]int{4: {0}, 5: {0}, 6: {0}}},
		{at(5), at(6), map[int][]int{4: {0}, 5: {8}, 6: {0}}},
		{from(4, 5), from(5, 6), map[int][]int{3: {0}, 4: {0, 8}, 5: {0, 8}, 6: {0}}},
		{from(3, 5), at(5), map[int][]int{2: {0}, 3: {0, 8}, 4: {0, 8}, 5: {0}}},
		{at(5), from(5, 7), map[int][]int{4: {0}, 5: {0, 8}, 6: {0, 8}, 7: {0}}},
		{from(3, 4), from(6, 7), map[int][]int{2: {0}, 3: {0, 8}, 4: {8}, 5: {8}, 6: {0, 8}, 7: {0}}},
	} {
		k := api.Kin{Stays: []api.Stay{lives(1, 7, 8, c.begins, c.ends)}}
		for day, homes := range c.homes {
			wantList(t, c, homes, api.OK)(family.Homes(k, 7, day, 0))
			wantList(t, c, homes, api.OK)(family.Families(k, 7, day, 0))
		}
	}
}

// TestGreatestSource: the greatest source decides, not the latest day; one that may have the day hides those before it only if it surely has it.
func TestGreatestSource(t *testing.T) {
	k := api.Kin{Stays: []api.Stay{
		lives(1, 7, 10, at(0), at(100)), lives(2, 7, 20, from(10, 20), from(30, 40)), lives(3, 7, 30, from(15, 25), from(28, 50)), lives(4, 8, 90, at(0), at(100)),
	}}
	for day, homes := range map[int][]int{9: {10}, 10: {10, 20}, 15: {10, 20, 30}, 20: {20, 30}, 24: {20, 30}, 25: {30}, 27: {30}, 28: {20, 30}, 30: {10, 20, 30}, 39: {10, 20, 30}, 40: {10, 30}, 50: {10}, 100: {0}} {
		wantList(t, day, homes, api.OK)(family.Homes(k, 7, day, 0))
	}
}

// TestKnown: what becomes known on a day counts on it, and what ends on a day does not.
func TestKnown(t *testing.T) {
	k := api.Kin{Stays: []api.Stay{lives(1, 7, 10, at(0), at(100)), lives(2, 7, 20, at(0), at(100))}}
	k.Stays[1].Known, k.Stays[1].Until = 5, 8
	for known, homes := range map[int][]int{0: {10}, 4: {10}, 5: {20}, 7: {20}, 8: {10}, 4166: {10}} {
		wantList(t, known, homes, api.OK)(family.Homes(k, 7, 50, known))
	}
	k.Stays[0].Until, k.Stays[1].Until = 4166, 0
	wantList(t, "ended on the last day", list(20), api.OK)(family.Homes(k, 7, 50, 4166))
}

// TestAwayWithOneWhoIsAway: who is away carries for nobody, even if somebody carries for him.
func TestAwayWithOneWhoIsAway(t *testing.T) {
	all := at(100)
	k := api.Kin{
		Stays: []api.Stay{lives(1, 1, 11, at(0), all), lives(2, 2, 12, at(0), all), lives(3, 3, 13, at(0), all)},
		Aways: []api.Away{leaves(1, 1, 2, at(0), all), leaves(2, 2, 3, from(10, 20), from(30, 40))},
	}
	for day, families := range map[int][]int{5: {11}, 10: {0, 11}, 20: {0}, 29: {0}, 30: {0, 11}, 40: {11}} {
		wantList(t, day, families, api.OK)(family.Families(k, 1, day, 0))
		wantList(t, day, list(12), api.OK)(family.Families(k, 2, day, 0)) // carried for, or walking
		wantList(t, day, list(13), api.OK)(family.Families(k, 3, day, 0))
	}
	k.Offences = []api.Offence{{Source: 1, Person: 3, Day: 24}}
	wantList(t, "3 is barred", list(0), api.OK)(family.Families(k, 2, 25, 0))
	k.Offences = []api.Offence{{Source: 1, Person: 2, Day: 4}}
	wantList(t, "2 is barred, and so does not walk", list(0), api.OK)(family.Families(k, 1, 5, 0))
	k.Aways = append(k.Aways, leaves(3, 3, 1, at(0), all)) // each by the next one
	for _, person := range list(1, 2, 3) {
		wantList(t, "all are away", list(0), api.OK)(family.Families(k, person, 25, 0))
	}
	wantList(t, "2 walks, who carries for 1, who carries for nobody", list(0), api.OK)(family.Families(k, 3, 7, 0))
	wantList(t, "2 walks", list(11), api.OK)(family.Families(k, 1, 7, 0))
	k.Stays[1].Till = at(3)
	wantList(t, "2 has no home", list(0), api.OK)(family.Families(k, 1, 7, 0))
}

// TestAwayWithEachOther: by some terms each may carry for the other, but by none both glean.
func TestAwayWithEachOther(t *testing.T) {
	k := api.Kin{
		Stays: []api.Stay{lives(1, 1, 5, at(0), at(100)), lives(2, 2, 5, at(0), at(100))},
		Aways: []api.Away{leaves(1, 1, 2, from(0, 50), at(100)), leaves(2, 2, 1, from(0, 50), at(100))},
	}
	for person := range 2 {
		wantList(t, person, list(0, 5), api.OK)(family.Families(k, person+1, 20, 0))
		wantList(t, person, list(0), api.OK)(family.Families(k, person+1, 50, 0))
	}
	want(t, "heads", from(0, 2), api.OK)(family.Heads(k, 5, 20, 0)) // both walk, or none
	want(t, "heads", from(0, 0), api.OK)(family.Heads(k, 5, 50, 0))
	k.Aways[0].From = at(0)
	want(t, "heads, as 1 is surely away", from(0, 2), api.OK)(family.Heads(k, 5, 20, 0))
	wantList(t, "2 walks or is away with 1, who is away", list(0, 5), api.OK)(family.Families(k, 2, 20, 0))
}

// TestBondedToBonded: chains of bonds, and their ends.
func TestBondedToBonded(t *testing.T) {
	k := api.Kin{
		Stays: []api.Stay{lives(1, 1, 9, at(0), at(200)), lives(2, 2, 6, at(0), at(200)), lives(3, 3, 2, at(0), at(200))},
		Bonds: []api.Bond{joins(1, 9, 6, from(10, 20), at(100)), joins(2, 6, 2, from(15, 25), from(60, 70)), joins(3, 9, 4, from(50, 55), at(80))},
	}
	for day, leads := range map[int][]int{9: {9}, 10: {6, 9}, 15: {2, 6, 9}, 20: {2, 6}, 25: {2}, 50: {2, 4}, 55: {4}, 65: {4}, 80: {6}, 100: {9}} {
		wantList(t, day, leads, api.OK)(family.Leads(k, 9, day, 0))
		wantList(t, day, leads, api.OK)(family.Families(k, 1, day, 0))
	}
	want(t, "heads", from(1, 3), api.OK)(family.Heads(k, 2, 15, 0))
	want(t, "heads", from(3, 3), api.OK)(family.Heads(k, 2, 25, 0))
	want(t, "heads", from(0, 2), api.OK)(family.Heads(k, 6, 15, 0))
	want(t, "heads", from(0, 0), api.OK)(family.Heads(k, 6, 25, 0))
	wantList(t, "a family of which nobody is", list(98), api.OK)(family.Leads(k, 98, 25, 0))
}

// TestOffencesOfOthers: an offence bars its person, and on the day behind it only.
func TestOffencesOfOthers(t *testing.T) {
	k := api.Kin{
		Stays:    []api.Stay{lives(1, 1, 5, at(0), at(100)), lives(2, 2, 5, at(0), at(100))},
		Aways:    []api.Away{leaves(1, 2, 1, at(50), at(60))},
		Offences: []api.Offence{{Source: 1, Person: 1, Day: 10}, {Source: 2, Person: 1, Day: 12}, {Source: 3, Person: 1, Day: 54, Known: 7, Until: 9}},
	}
	for day, sure := range map[int][]int{10: {1, 2}, 11: {2}, 12: {1, 2}, 13: {2}, 14: {1, 2}, 55: nil, 56: {1, 2}} {
		wantList(t, day, sure, api.OK)(family.Sure(k, 5, day, 8))
		wantList(t, day, sure, api.OK)(family.May(k, 5, day, 8))
	}
	for _, known := range list(6, 9) {
		wantList(t, "not known", list(1, 2), api.OK)(family.Sure(k, 5, 55, known))
	}
}

// crowd returns a random kin at the limits.
func crowd(r *rand.Rand, persons, families int) api.Kin {
	l := lot{day: 100, person: 1, family: 1}
	var k api.Kin
	for i := range 60 {
		s, a, o := randomStay(r, l, i+1), randomAway(r, l, i+1), randomOffence(r, l, i+1)
		s.Person, s.Family, a.Person, o.Person = 1+r.Intn(persons), 1+r.Intn(families), 1+r.Intn(persons), 1+r.Intn(persons)
		a.By = r.Intn(persons + 1)
		if a.By == a.Person {
			a.By = 0
		}
		b := randomBond(r, l, i+1)
		b.Family = 2 + r.Intn(families-1)
		b.With = 1 + r.Intn(b.Family-1)
		k.Stays, k.Bonds, k.Aways, k.Offences = append(k.Stays, s), append(k.Bonds, b), append(k.Aways, a), append(k.Offences, o)
	}
	return k
}

// TestCrowds: P3.2 and P3.3 for kin at the limits, by some true terms.
func TestCrowds(t *testing.T) {
	r := rand.New(rand.NewSource(9))
	for range 40 {
		persons, families := 2+r.Intn(30), 2+r.Intn(30)
		k, day, known := crowd(r, persons, families), 100+r.Intn(dayCount), 4
		s := scene{k: k, count: counting(k, known), known: known}
		for range 40 {
			s.all = append(s.all, randomTruth(r, s.count))
		}
		told := map[int][]int{}
		for person := 1; person <= persons; person++ {
			told[person] = must(t)(family.Families(k, person, day, known))
		}
		for f := 1; f <= families; f++ {
			checkCrowd(t, s, f, day, told)
		}
	}
}

func randomTruth(r *rand.Rand, k api.Kin) api.Times {
	var terms []api.Term
	for _, s := range spansOf(k) {
		terms = append(terms, api.Term{Begin: s[0].Lo + r.Intn(s[0].Hi-s[0].Lo+1), End: s[1].Lo + r.Intn(s[1].Hi-s[1].Lo+1)})
	}
	return timesOf(k, terms)
}

// checkCrowd checks that by all terms of a scene, and by those that attain the least and the most, persons glean as was told.
func checkCrowd(t *testing.T, s scene, f, day int, told map[int][]int) {
	t.Helper()
	heads, e := family.Heads(s.k, f, day, s.known)
	least, e1 := family.Attain(s.k, f, day, s.known, false)
	most, e2 := family.Attain(s.k, f, day, s.known, true)
	if e != api.OK || e1 != api.OK || e2 != api.OK {
		t.Fatal(e, e1, e2)
	}
	for i, terms := range append(slices.Clone(s.all), least, most) {
		if e := family.CheckTimes(s.k, s.known, terms); e != api.OK {
			t.Fatal(s.k, terms, e)
		}
		n := 0
		for person, families := range told {
			truly := s.truth(terms).family(person, day)
			if truly == f {
				n++
			}
			if !slices.Contains(families, truly) {
				t.Fatalf("%+v: %d gleans for %d, families %v", s.k, person, truly, families)
			}
		}
		if n < heads.Lo || n > heads.Hi || i == len(s.all) && n != heads.Lo || i == len(s.all)+1 && n != heads.Hi {
			t.Fatalf("%+v: %d glean for %d by terms %d, heads %v", s.k, n, f, i, heads)
		}
	}
}

// TestManyChains: as many chains of bonds as there can be do not take longer.
func TestManyChains(t *testing.T) {
	k := api.Kin{Stays: []api.Stay{lives(1, 1, 99, at(0), at(100))}}
	var all []int
	for i := range 60 {
		f := 99 - i/2
		k.Bonds = append(k.Bonds, joins(i+1, f, f-1-i%2, from(0, 50), at(100)))
	}
	for f := 68; f <= 99; f++ {
		all = append(all, f)
	}
	wantList(t, "leads", all, api.OK)(family.Leads(k, 99, 20, 0))
	wantList(t, "families", all, api.OK)(family.Families(k, 1, 20, 0))
	for _, f := range all {
		want(t, "for "+strconv.Itoa(f), api.Maybe, api.OK)(family.For(k, 1, f, 20, 0))
		terms, e := family.Show(k, 1, f, 20, 0)
		want(t, "shown", f, e)(family.Truly(k, terms, 1, 20, 0))
	}
}
