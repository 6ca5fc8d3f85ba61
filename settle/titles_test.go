package settle_test

import (
	"slices"
	"testing"

	"leazing/api"
	"leazing/settle"
)

// P2.1: titles, and where a person is settled by one reading.

func TestTitles(t *testing.T) {
	seen := 0
	for _, l := range randomProofs(400) {
		for known := range lastKnown + 1 {
			count := counting(l, known)
			for _, reading := range allReadings(count) {
				for person := 1; person <= lastPerson+1; person++ {
					want := titlesOf(count, reading, person)
					got, e := settle.Titles(l, reading, person, known)
					if e != api.OK || !slices.Equal(got, want) {
						t.Fatalf("titles of %d by %v of %+v: %v, error %d, want %v", person, reading, count, got, e, want)
					}
					seen += len(want)
				}
			}
		}
	}
	if seen < 10000 {
		t.Error("too few titles were tried:", seen)
	}
}

func TestSettled(t *testing.T) {
	for i, l := range randomProofs(200) {
		known := i % (lastKnown + 1)
		count := counting(l, known)
		for n, reading := range allReadings(count) {
			if n > 3 {
				break
			}
			for person := 1; person <= lastPerson+1; person++ {
				for _, day := range daysTried {
					wantNumber(t, l, settledOf(count, reading, person, day), api.OK)(settle.Settled(l, reading, person, day, known))
				}
			}
		}
	}
}

// of5 wants titles of the person 5 by the only reading of proofs.
func of5(t *testing.T, what string, l []api.Proof, want ...api.Title) {
	t.Helper()
	for i := range l {
		l[i].Source = 3*i + 2
	}
	reading, e := settle.Reading(l, 0, 0)
	if e != api.OK {
		t.Fatal(what, e)
	}
	got, e := settle.Titles(l, reading, 5, 0)
	if e != api.OK || !slices.Equal(got, want) {
		t.Errorf("%s: %v, error %d, want %v", what, got, e, want)
	}
}

func TestTitleOfEachKind(t *testing.T) {
	for kind := api.PfBirth; kind <= api.PfExamined; kind++ {
		p := edited(1, kind, 100, nil)
		if kind != api.PfMarried {
			p.Parish = 4
		}
		if has(kind, api.PfBirth, api.PfCertify, api.PfRemoved) {
			of5(t, "at once", []api.Proof{p}, api.Title{Day: 100, Parish: 4, Source: 2})
		} else {
			of5(t, "none", []api.Proof{p})
		}
	}
	for _, c := range []struct{ kind, days int }{{api.PfService, 365}, {api.PfRent, 365}, {api.PfBound, 40}} {
		of5(t, "a day less", []api.Proof{edited(1, c.kind, 100, inThrough(4, 100+c.days-2))})
		for _, last := range list(100+c.days-1, 100+c.days, 100+c.days+1, 4166) {
			of5(t, "enough days", []api.Proof{edited(1, c.kind, 100, inThrough(4, last))}, api.Title{Day: 100 + c.days, Parish: 4, Source: 2})
		}
		// The last days of all settle on a day behind them.
		of5(t, "to the last day", []api.Proof{edited(1, c.kind, 4166-c.days+1, through(4166))}, api.Title{Day: 4167, Parish: 0, Source: 2})
		of5(t, "to the last day, too late", []api.Proof{edited(1, c.kind, 4166-c.days+2, through(4166))})
	}
}

func TestCertificateBars(t *testing.T) {
	for _, c := range []struct{ kind, days int }{{api.PfService, 365}, {api.PfRent, 365}, {api.PfBound, 40}} {
		served := edited(1, c.kind, 100, inThrough(1, 1000))
		title := api.Title{Day: 100 + c.days, Parish: 1, Source: 2}
		for _, parish := range list(1, 3) {
			before := edited(2, api.PfCertify, 99, in(parish))
			of5(t, "before", []api.Proof{served, before}, api.Title{Day: 99, Parish: parish, Source: 5})
			same := edited(2, api.PfCertify, 100, in(parish))
			of5(t, "on its day", []api.Proof{served, same}, api.Title{Day: 100, Parish: parish, Source: 5})
			after := edited(2, api.PfCertify, 101, in(parish))
			of5(t, "after", []api.Proof{served, after}, api.Title{Day: 101, Parish: parish, Source: 5}, title)
			other := edited(2, api.PfCertify, 50, in(parish))
			other.Persons = list(6)
			of5(t, "another person's", []api.Proof{served, other}, title)
		}
		order := edited(2, api.PfRemoved, 50, in(3))
		of5(t, "an order does not", []api.Proof{served, order}, api.Title{Day: 50, Parish: 3, Source: 5}, title)
	}
	// It bars no other titles.
	l := []api.Proof{edited(1, api.PfCertify, 10, in(3)), edited(2, api.PfRemoved, 20, in(4)), edited(3, api.PfCertify, 30, in(5))}
	of5(t, "others", l, api.Title{Day: 10, Parish: 3, Source: 2}, api.Title{Day: 20, Parish: 4, Source: 5}, api.Title{Day: 30, Parish: 5, Source: 8})
}

func TestMarriage(t *testing.T) {
	of := func(person int, p api.Proof) api.Proof {
		p.Persons = list(person)
		return p
	}
	to := func(person, day, other int) api.Proof {
		return api.Proof{Kind: api.PfMarried, Persons: list(person), Other: other, Day: day}
	}
	birth := of(6, edited(1, api.PfBirth, 100, in(3)))
	of5(t, "the day after", []api.Proof{birth, to(5, 101, 6)}, api.Title{Day: 101, Parish: 3, Source: 5})
	of5(t, "the same day", []api.Proof{birth, to(5, 100, 6)})
	of5(t, "before", []api.Proof{birth, to(5, 99, 6)})
	of5(t, "on the day 0", []api.Proof{of(6, edited(1, api.PfRemoved, 0, in(3))), to(5, 0, 6)})
	of5(t, "on the day 1", []api.Proof{of(6, edited(1, api.PfRemoved, 0, in(3))), to(5, 1, 6)}, api.Title{Day: 1, Parish: 3, Source: 5})
	of5(t, "nowhere", []api.Proof{to(5, 100, 6)})
	of5(t, "one after the other", []api.Proof{birth, to(7, 101, 6), to(5, 102, 7)}, api.Title{Day: 102, Parish: 3, Source: 8})
	of5(t, "one on the day of the other", []api.Proof{birth, to(7, 101, 6), to(5, 101, 7)})
	of5(t, "to each other", []api.Proof{birth, to(5, 200, 6), to(6, 300, 5), to(5, 400, 6)}, api.Title{Day: 200, Parish: 3, Source: 5}, api.Title{Day: 400, Parish: 3, Source: 11})
	late := of(6, edited(1, api.PfRemoved, 150, in(2)))
	of5(t, "as it was then", []api.Proof{birth, to(5, 150, 6), late}, api.Title{Day: 150, Parish: 3, Source: 5})
	of5(t, "as it was then, a day later", []api.Proof{birth, to(5, 151, 6), late}, api.Title{Day: 151, Parish: 2, Source: 5})
	of5(t, "the greater source of a day", []api.Proof{late, of(6, edited(2, api.PfCertify, 150, in(4))), to(5, 200, 6)}, api.Title{Day: 200, Parish: 4, Source: 8})
}

// TestOrderOfTitles: by Day, and then by Source, whatever the order of the proofs.
func TestOrderOfTitles(t *testing.T) {
	l := []api.Proof{
		edited(1, api.PfBound, 60, inThrough(4, 99)), edited(2, api.PfRemoved, 100, in(3)), edited(3, api.PfRemoved, 99, in(2)),
		edited(4, api.PfCertify, 100, in(1)), edited(5, api.PfBirth, 20, in(5)),
	}
	of5(t, "titles", l, api.Title{Day: 20, Parish: 5, Source: 14}, api.Title{Day: 99, Parish: 2, Source: 8}, api.Title{Day: 100, Parish: 4, Source: 2}, api.Title{Day: 100, Parish: 3, Source: 5}, api.Title{Day: 100, Parish: 1, Source: 11})
	for day, want := range map[int]int{0: -1, 19: -1, 20: 5, 98: 5, 99: 2, 100: 1, 4166: 1} {
		wantNumber(t, day, want, api.OK)(settle.Settled(l, list(5, 5, 5, 5, 5), 5, day, 0))
	}
}
