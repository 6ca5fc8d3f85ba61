package family_test

import (
	"math/rand"
	"slices"
	"testing"

	"leazing/api"
	"leazing/family"
)

// P3.1 to P3.3: what is told of a day, held against all true terms.

func TestHomesAndLeads(t *testing.T) {
	several := 0
	scenes(1, 600, func(s scene) {
		for _, day := range s.days() {
			for _, person := range s.persons() {
				homes := s.told(func(r truth) int { return r.home(person, day) })
				wantList(t, s.k, homes, api.OK)(family.Homes(s.k, person, day, s.known))
			}
			for _, f := range s.families() {
				leads := s.told(func(r truth) int { return r.lead(f, day) })
				wantList(t, s.k, leads, api.OK)(family.Leads(s.k, f, day, s.known))
				if len(leads) > 1 {
					several++
				}
			}
		}
	})
	if several < 500 {
		t.Error("too few families that may glean as several:", several)
	}
}

// answerOf returns the answer whether all of the families, or some, are so.
func answerOf(families []int, isSo func(family int) bool) int {
	so := slices.ContainsFunc(families, isSo)
	not := slices.ContainsFunc(families, func(f int) bool { return !isSo(f) })
	switch {
	case so && not:
		return api.Maybe
	case so:
		return api.Yes
	}
	return api.No
}

func TestFamilies(t *testing.T) {
	told := map[int]int{}
	scenes(2, 600, func(s scene) {
		for _, day := range s.days() {
			for _, person := range s.persons() {
				families := s.familiesOf(person, day)
				wantList(t, s.k, families, api.OK)(family.Families(s.k, person, day, s.known))
				gleans := answerOf(families, func(f int) bool { return f != 0 })
				want(t, s.k, gleans, api.OK)(family.Gleans(s.k, person, day, s.known))
				for _, f := range s.families() {
					is := answerOf(families, func(other int) bool { return other == f })
					want(t, s.k, is, api.OK)(family.For(s.k, person, f, day, s.known))
					told[is]++
				}
			}
		}
	})
	if min(told[api.No], told[api.Yes], told[api.Maybe]) < 1000 {
		t.Error("answers:", told)
	}
}

// TestHeads holds Sure and May against For of all persons of all stays, and Heads against all true terms.
func TestHeads(t *testing.T) {
	wide := 0
	scenes(3, 600, func(s scene) {
		for _, day := range s.days() {
			for _, f := range s.families() {
				var sure, may []int
				for _, person := range s.persons() {
					families := s.familiesOf(person, day)
					if slices.Contains(families, f) {
						may = append(may, person)
						if len(families) == 1 {
							sure = append(sure, person)
						}
					}
				}
				heads := s.headsOf(f, day)
				wantList(t, s.k, sure, api.OK)(family.Sure(s.k, f, day, s.known))
				wantList(t, s.k, may, api.OK)(family.May(s.k, f, day, s.known))
				want(t, s.k, heads, api.OK)(family.Heads(s.k, f, day, s.known))
				if heads.Hi > heads.Lo+1 {
					wide++
				}
			}
		}
	})
	if wide < 50 {
		t.Error("too few families of which several persons may be:", wide)
	}
}

func TestTruly(t *testing.T) {
	r := rand.New(rand.NewSource(4))
	scenes(4, 400, func(s scene) {
		for _, i := range r.Perm(len(s.all))[:min(8, len(s.all))] {
			terms := s.all[i]
			for _, day := range s.days() {
				persons := map[int][]int{}
				for _, person := range s.persons() {
					f := s.truth(terms).family(person, day)
					want(t, s.k, f, api.OK)(family.Truly(s.k, terms, person, day, s.known))
					persons[f] = append(persons[f], person)
				}
				for _, f := range s.families() {
					wantList(t, s.k, persons[f], api.OK)(family.Count(s.k, terms, f, day, s.known))
				}
			}
		}
	})
}

// TestCheckTimes holds terms around the bounds, and too many or too few of them, against the definition.
func TestCheckTimes(t *testing.T) {
	r := rand.New(rand.NewSource(5))
	accepted := map[bool]int{}
	scenes(5, 1500, func(s scene) {
		spans := spansOf(s.count)
		terms := slices.Concat(s.all[0].Stays, s.all[0].Bonds, s.all[0].Aways)
		ok := true
		for i, span := range spans {
			switch r.Intn(6) {
			case 0:
				terms[i].Begin = span[0].Lo - 1 + r.Intn(span[0].Hi-span[0].Lo+3)
			case 1:
				terms[i].End = span[1].Hi + 1 - r.Intn(span[1].Hi-span[1].Lo+3)
			}
			ok = ok && terms[i].Begin >= span[0].Lo && terms[i].Begin <= span[0].Hi && terms[i].End >= span[1].Lo && terms[i].End <= span[1].Hi
		}
		checkTimes(t, s, timesOf(s.count, terms), ok)
		accepted[ok]++
		for _, other := range otherCounts(s.all[len(s.all)-1]) {
			checkTimes(t, s, other, false)
		}
	})
	if min(accepted[true], accepted[false]) < 200 {
		t.Error("terms:", accepted)
	}
}

func checkTimes(t *testing.T, s scene, terms api.Times, ok bool) {
	t.Helper()
	e := api.OK
	if !ok {
		e = api.ErrTimes
	}
	if got := family.CheckTimes(s.k, s.known, terms); got != e {
		t.Errorf("CheckTimes of %+v for %+v, known %d: %d, want %d", terms, s.k, s.known, got, e)
	}
	day, person, f := s.day+3, s.person, s.family
	if _, got := family.Truly(s.k, terms, person, day, s.known); got != e {
		t.Errorf("Truly by %+v for %+v, known %d: %d, want %d", terms, s.k, s.known, got, e)
	}
	if _, got := family.Count(s.k, terms, f, day, s.known); got != e {
		t.Errorf("Count by %+v for %+v, known %d: %d, want %d", terms, s.k, s.known, got, e)
	}
}

// otherCounts returns the terms with one more, or one less, of each kind.
func otherCounts(terms api.Times) []api.Times {
	var others []api.Times
	for kind := range 3 {
		for _, more := range []bool{true, false} {
			other := api.Times{Stays: slices.Clone(terms.Stays), Bonds: slices.Clone(terms.Bonds), Aways: slices.Clone(terms.Aways)}
			l := []*[]api.Term{&other.Stays, &other.Bonds, &other.Aways}[kind]
			if more {
				*l = append(*l, api.Term{})
			} else if len(*l) > 0 {
				*l = (*l)[1:]
			} else {
				continue
			}
			others = append(others, other)
		}
	}
	return others
}

func TestShow(t *testing.T) {
	shown := 0
	scenes(6, 400, func(s scene) {
		for _, day := range s.days() {
			for _, person := range s.persons() {
				families := s.familiesOf(person, day)
				for _, f := range s.families() {
					terms, e := family.Show(s.k, person, f, day, s.known)
					if !slices.Contains(families, f) {
						if e != api.ErrNone || len(terms.Stays)+len(terms.Bonds)+len(terms.Aways) > 0 {
							t.Fatalf("%+v: %+v is shown for %d in %d, error %d", s.k, terms, person, f, e)
						}
						continue
					}
					if e != api.OK || family.CheckTimes(s.k, s.known, terms) != api.OK || s.truth(terms).family(person, day) != f {
						t.Fatalf("%+v: %+v is shown for %d in %d, error %d", s.k, terms, person, f, e)
					}
					shown++
				}
			}
		}
	})
	if shown < 2000 {
		t.Error("too few were shown:", shown)
	}
}

func TestAttain(t *testing.T) {
	scenes(7, 600, func(s scene) {
		for _, day := range s.days() {
			for _, f := range s.families() {
				heads := s.headsOf(f, day)
				for most, n := range map[bool]int{false: heads.Lo, true: heads.Hi} {
					terms, e := family.Attain(s.k, f, day, s.known, most)
					if e != api.OK || family.CheckTimes(s.k, s.known, terms) != api.OK {
						t.Fatalf("%+v: attain %+v, error %d", s.k, terms, e)
					}
					r, got := s.truth(terms), 0
					for _, person := range s.persons() {
						if r.family(person, day) == f {
							got++
						}
					}
					if got != n {
						t.Fatalf("%+v, known %d: %d glean for %d on %d by %+v, want %d", s.k, s.known, got, f, day, terms, n)
					}
				}
			}
		}
	})
}

// TestChangedAndMoved holds them against Families by all true terms.
func TestChangedAndMoved(t *testing.T) {
	changes, moves := 0, 0
	scenes(8, 300, func(s scene) {
		for _, day := range s.days() {
			for later := range knownCount + 2 {
				changed := s.differing(scene{lot: s.lot, count: counting(s.k, later)}, day)
				wantList(t, s.k, changed, api.OK)(family.Changed(s.k, day, s.known, later))
				changes += len(changed)
			}
			for _, source := range sources(s.k) {
				moved := s.differing(scene{lot: s.lot, count: lessOne(s.count, source)}, day)
				wantList(t, s.k, moved, api.OK)(family.Moved(s.k, source, day, s.known))
				moves += len(moved)
			}
		}
		wantList(t, s.k, nil, api.ErrNone)(family.Moved(s.k, s.source+50, s.day, s.known))
	})
	if min(changes, moves) < 1000 {
		t.Error("too few moved:", changes, moves)
	}
}

// differing returns the persons of all stays who glean for other families by what counts in another scene.
func (s scene) differing(other scene, day int) []int {
	if len(spansOf(other.count)) == 0 {
		other.all = []api.Times{{}}
	} else {
		other.all = sampled(other.count, day)
	}
	return slices.DeleteFunc(s.staying(), func(person int) bool {
		return slices.Equal(s.familiesOf(person, day), other.familiesOf(person, day))
	})
}

// sampled returns true terms of a kin which have, and have not, a day in all ways in which terms can: of what counts later there may be too many to try all.
func sampled(k api.Kin, day int) []api.Times {
	var spans [][]api.Term
	for _, s := range spansOf(k) {
		options := triedTerms([][2]api.Range{s})
		var some []api.Term
		for _, has := range []bool{true, false} {
			i := slices.IndexFunc(options, func(o []api.Term) bool { return within(o[0], day) == has })
			if i >= 0 {
				some = append(some, options[i][0])
			}
		}
		spans = append(spans, some)
	}
	all := [][]api.Term{nil}
	for _, some := range spans {
		var longer [][]api.Term
		for _, terms := range all {
			for _, term := range some {
				longer = append(longer, append(slices.Clone(terms), term))
			}
		}
		all = longer
	}
	var times []api.Times
	for _, terms := range all {
		times = append(times, timesOf(k, terms))
	}
	return times
}
