package settle_test

import (
	"math"
	"slices"
	"testing"

	"leazing/api"
	"leazing/settle"
)

// P2.1: readings, and proofs that contradict each other, against all that can be tried.

// edited returns a proof of the person 5, changed.
func edited(source, kind, day int, change func(p *api.Proof)) api.Proof {
	p := api.Proof{Source: source, Kind: kind, Persons: list(5), Day: day}
	if kind == api.PfMarried {
		p.Other = 9
	}
	if lasting(kind) {
		p.Through = day
	}
	if change != nil {
		change(&p)
	}
	return p
}

func through(day int) func(p *api.Proof) { return func(p *api.Proof) { p.Through = day } }

func in(parish int) func(p *api.Proof) { return func(p *api.Proof) { p.Parish = parish } }

func inThrough(parish, day int) func(p *api.Proof) {
	return func(p *api.Proof) { p.Parish, p.Through = parish, day }
}

// checkPair wants two proofs of one person to be at odds, or not, in both orders, and never if they are of two persons.
func checkPair(t *testing.T, p, q api.Proof, odd bool) {
	t.Helper()
	for range 2 {
		p.Source, q.Source = 1, 2
		l := []api.Proof{p, q}
		want := 1
		if odd {
			want = 0
		}
		wantNumber(t, l, want, api.OK)(settle.Readings(l, 0))
		apart := cloned(l)
		apart[1].Persons = list(6)
		wantNumber(t, apart, 1, api.OK)(settle.Readings(apart, 0))
		either := cloned(l)
		either[1].Persons = list(5, 6)
		wantNumber(t, either, want+1, api.OK)(settle.Readings(either, 0))
		p, q = q, p
	}
}

func TestBirthsAtOdds(t *testing.T) {
	birth := edited(1, api.PfBirth, 100, nil)
	checkPair(t, birth, edited(2, api.PfBirth, 100, nil), true)
	checkPair(t, birth, edited(2, api.PfBirth, 2000, in(1)), true)
	for kind := api.PfMarried; kind <= api.PfExamined; kind++ {
		checkPair(t, birth, edited(2, kind, 99, nil), true)
		checkPair(t, birth, edited(2, kind, 100, nil), false)
		checkPair(t, birth, edited(2, kind, 101, nil), false)
		checkPair(t, birth, edited(2, kind, 0, func(p *api.Proof) {
			if lasting(kind) {
				p.Through = 4166
			}
		}), true)
	}
}

func TestServiceAtOdds(t *testing.T) {
	for _, one := range list(api.PfService, api.PfRent, api.PfBound) {
		for _, other := range list(api.PfService, api.PfRent, api.PfBound) {
			odd := one != api.PfRent && other != api.PfRent
			p := edited(1, one, 100, through(200))
			for _, parish := range list(0, 1) {
				checkPair(t, p, edited(2, other, 50, inThrough(parish, 99)), false)
				checkPair(t, p, edited(2, other, 50, inThrough(parish, 100)), odd)
				checkPair(t, p, edited(2, other, 150, inThrough(parish, 160)), odd)
				checkPair(t, p, edited(2, other, 0, inThrough(parish, 4166)), odd)
				checkPair(t, p, edited(2, other, 200, inThrough(parish, 200)), odd)
				checkPair(t, p, edited(2, other, 201, inThrough(parish, 300)), false)
				checkPair(t, edited(1, one, 7, nil), edited(2, other, 7, inThrough(parish, 7)), odd)
			}
		}
	}
}

func TestExaminedAtOdds(t *testing.T) {
	for kind := api.PfMarried; kind <= api.PfExamined; kind++ {
		p := edited(1, kind, 100, nil)
		if lasting(kind) {
			p.Through = 200
		}
		serves := has(kind, api.PfService, api.PfBound)
		for day, inside := range map[int]bool{0: false, 99: false, 100: true, 150: true, 200: true, 201: false, 4166: false} {
			checkPair(t, p, edited(2, api.PfExamined, day, in(1)), serves && inside)
			checkPair(t, p, edited(2, api.PfExamined, day, in(0)), false)
		}
	}
	checkPair(t, edited(1, api.PfExamined, 100, in(3)), edited(2, api.PfExamined, 100, in(4)), false)
}

// TestNeverAtOdds: kinds that the chapter does not name against each other may be of one person at one time.
func TestNeverAtOdds(t *testing.T) {
	rest := list(api.PfMarried, api.PfRent, api.PfCertify, api.PfRemoved, api.PfExamined)
	for _, one := range rest {
		for _, other := range rest {
			p, q := edited(1, one, 100, nil), edited(2, other, 100, nil)
			if other != api.PfMarried {
				q.Parish = 1
			}
			checkPair(t, p, q, false)
		}
	}
}

func TestMarriageIsNotOfOther(t *testing.T) {
	p := api.Proof{Source: 1, Kind: api.PfMarried, Persons: list(5, 6), Other: 5, Day: 10}
	wantList(t, "of 6", list(6), api.OK)(settle.Reading([]api.Proof{p}, 0, 0))
	wantNumber(t, "one reading", 1, api.OK)(settle.Readings([]api.Proof{p}, 0))
	if e := settle.CheckReading([]api.Proof{p}, 0, list(5)); e != api.ErrReading {
		t.Error(e)
	}
	p.Persons = list(5)
	wantNumber(t, "no reading", 0, api.OK)(settle.Readings([]api.Proof{p}, 0))
	wantList(t, "against itself", list(1), api.OK)(settle.Clash([]api.Proof{p}, 0))
}

func TestReadings(t *testing.T) {
	for _, l := range randomProofs(600) {
		for known := range lastKnown + 1 {
			all := allReadings(counting(l, known))
			wantNumber(t, l, len(all), api.OK)(settle.Readings(l, known))
			for n, want := range all {
				wantList(t, n, want, api.OK)(settle.Reading(l, known, n))
			}
			for _, n := range list(math.MinInt, -1, len(all), len(all)+1, math.MaxInt) {
				wantList(t, n, nil, api.ErrNone)(settle.Reading(l, known, n))
			}
		}
	}
}

func TestCheckReading(t *testing.T) {
	check := func(l []api.Proof, known int, persons []int) {
		t.Helper()
		want := api.ErrReading
		if agrees(counting(l, known), persons) {
			want = api.OK
		}
		if e := settle.CheckReading(l, known, persons); e != want {
			t.Fatalf("%v of %+v, known %d: error %d, want %d", persons, l, known, e, want)
		}
	}
	for _, l := range randomProofs(150) {
		for known := range lastKnown + 1 {
			for _, reading := range allReadings(counting(l, known)) {
				check(l, known, reading)
				check(l, known, append(slices.Clone(reading), 1))
				check(l, known, reading[:max(0, len(reading)-1)])
				for i := range reading {
					for _, person := range list(math.MinInt, -1, 0, 1, 2, 3, 4, 5, 6, math.MaxInt) {
						other := slices.Clone(reading)
						other[i] = person
						check(l, known, other)
					}
				}
			}
			check(l, known, nil)
			check(l, known, slices.Repeat(list(1), len(l)))
		}
	}
	check(example(), 0, make([]int, 1000000))
}

func TestClash(t *testing.T) {
	clashes := 0
	for _, l := range randomProofs(600) {
		for known := range lastKnown + 1 {
			left := counting(l, known)
			if len(allReadings(left)) > 0 {
				wantList(t, l, nil, api.ErrRead)(settle.Clash(l, known))
				continue
			}
			for _, source := range slices.Backward(sourcesOf(left)) {
				if fewer := lessOne(left, source); len(allReadings(fewer)) == 0 {
					left = fewer
				}
			}
			clashes++
			wantList(t, l, sourcesOf(left), api.OK)(settle.Clash(l, known))
		}
	}
	if clashes < 300 {
		t.Error("too few contradictions were tried:", clashes)
	}
}

// TestClashLeavesOutTheGreatest: of two contradictions the one with the lesser sources is told.
func TestClashLeavesOutTheGreatest(t *testing.T) {
	l := []api.Proof{edited(3, api.PfBirth, 9, nil), edited(5, api.PfBirth, 8, nil), edited(6, api.PfBirth, 7, nil), edited(9, api.PfMarried, 1, nil)}
	wantList(t, "births", list(3, 5), api.OK)(settle.Clash(l, 0))
	wantList(t, "birth and marriage", list(6, 9), api.OK)(settle.Clash(l[2:], 0))
}

func TestCheckClash(t *testing.T) {
	check := func(l []api.Proof, known int, by []int) {
		t.Helper()
		want := api.ErrRead
		var some []api.Proof
		for _, p := range counting(l, known) {
			if slices.Contains(by, p.Source) {
				some = append(some, p)
			}
		}
		if slices.Equal(sourcesOf(some), by) && contradict(some) {
			want = api.OK
		}
		if e := settle.CheckClash(l, known, by); e != want {
			t.Fatalf("%v of %+v, known %d: error %d, want %d", by, l, known, e, want)
		}
	}
	for _, l := range randomProofs(150) {
		for known := range 3 {
			all := sourcesOf(l)
			for set := range 1 << len(all) {
				by := []int{}
				for i, source := range all {
					if set>>i&1 == 1 {
						by = append(by, source)
					}
				}
				check(l, known, by)
			}
		}
	}
	l := unread()
	for _, by := range [][]int{{1, 2, 7}, {1, 7, 2}, {7, 2, 1}, {1, 2, 2, 7}, {1, 2, 7, 7}, {0, 1, 2, 7}, {1, 2, 7, 8}, {math.MinInt, 1, 2, 7}, {1, 2, 7, math.MaxInt}, {1, 2}, {1, 7}, {1, 2, 3, 7}, {1}, {0}} {
		check(l, 20, by)
		check(l, 19, by)
	}
	check(l, 20, make([]int, 1000000))
}
