package settle

import (
	"cmp"
	"slices"

	"leazing/api"
)

// nowhere is in place of a parish.
const nowhere = -1

// claim is a title that a proof gives its person by some readings.
type claim struct {
	title api.Title // its Parish is not yet known if the proof is of a marriage
	at    int       // the index of the proof
}

// claims returns the claims that proofs make, in the order of their titles.
func claims(l []api.Proof) []claim {
	var list []claim
	for at, p := range l {
		if wait, ok := waiting(p); ok {
			title := api.Title{Day: p.Day + wait, Parish: p.Parish, Source: p.Source}
			list = put(list, claim{title, at}, byTitle)
		}
	}
	return list
}

func byTitle(c, d claim) int {
	return cmp.Or(cmp.Compare(c.title.Day, d.title.Day), cmp.Compare(c.title.Source, d.title.Source))
}

// waiting returns how many days after its Day a proof settles; false if it never does.
func waiting(p api.Proof) (int, bool) {
	days := p.Through - p.Day + 1
	switch p.Kind {
	case api.PfExamined:
		return 0, false
	case api.PfService, api.PfRent:
		return api.YearDays, days >= api.YearDays
	case api.PfBound:
		return api.BoundDays, days >= api.BoundDays
	}
	return 0, true
}

// holding is a title that a person has.
type holding struct {
	api.Title
	person    int
	certified bool // by a certificate
}

// holdings returns all titles by a reading, in order.
//
// A title rests only on titles that begin before it: that of a marriage on those up to the day before, that of a service on certificates up to its first day. So one pass in order finds all.
func (r register) holdings(reading []int) []holding {
	held := make([]holding, 0, len(r.claims))
	for _, c := range r.claims {
		p := r.proofs[c.at]
		h := holding{c.title, reading[c.at], p.Kind == api.PfCertify}
		if p.Kind == api.PfMarried {
			h.Parish = settledBy(held, p.Other, p.Day-1)
		}
		if h.Parish == nowhere || lasts(p.Kind) && hasCertificate(held, h.person, p.Day) {
			continue
		}
		held = append(held, h)
	}
	return held
}

// settledBy returns where a person is settled on a day, by holdings in order.
func settledBy(held []holding, person, day int) int {
	for _, h := range slices.Backward(held) {
		if h.person == person && h.Day <= day {
			return h.Parish
		}
	}
	return nowhere
}

func hasCertificate(held []holding, person, day int) bool {
	return slices.ContainsFunc(held, func(h holding) bool {
		return h.certified && h.person == person && h.Day <= day
	})
}

// Titles returns the titles of a person by a reading, in order.
func Titles(l []api.Proof, reading []int, person, known int) ([]api.Title, api.Errno) {
	if e := checkAsked(l, person, anywhere, known); e != api.OK {
		return nil, e
	}
	r := opened(l, known)
	if !r.isReading(reading) {
		return nil, api.ErrReading
	}
	var titles []api.Title
	for _, h := range r.holdings(reading) {
		if h.person == person {
			titles = append(titles, h.Title)
		}
	}
	return titles, api.OK
}

// Settled returns where a person is settled on a day by a reading; -1: nowhere.
func Settled(l []api.Proof, reading []int, person, day, known int) (int, api.Errno) {
	if e := checkAsked(l, person, anywhere, day, known); e != api.OK {
		return 0, e
	}
	r := opened(l, known)
	if !r.isReading(reading) {
		return 0, api.ErrReading
	}
	return settledBy(r.holdings(reading), person, day), api.OK
}
