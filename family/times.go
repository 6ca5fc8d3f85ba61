package family

import (
	"slices"

	"leazing/api"
)

// lists returns the terms of each kind that has some.
func lists(t api.Times) [kindOffence][]api.Term {
	return [kindOffence][]api.Term{kindStay: t.Stays, kindBond: t.Bonds, kindAway: t.Aways}
}

// by returns the ledger in which each span has just the true term; false if they are no true terms.
func (l ledger) by(t api.Times) (ledger, bool) {
	for kind, terms := range lists(t) {
		if len(terms) != len(l[kind]) {
			return ledger{}, false
		}
		l[kind] = slices.Clone(l[kind])
		for i, term := range terms {
			if !l[kind][i].contains(term) {
				return ledger{}, false
			}
			l[kind][i].span = span{single(term.Begin), single(term.End)}
		}
	}
	return l, true
}

// CheckTimes returns OK for true terms, and otherwise ErrTimes.
func CheckTimes(k api.Kin, known int, t api.Times) api.Errno {
	if e := checkAsked(k, anybody, anyFamily, known); e != api.OK {
		return e
	}
	if _, ok := counting(k, known).by(t); !ok {
		return api.ErrTimes
	}
	return api.OK
}

// Truly returns the family for which a person gleans by true terms; 0 if for none.
func Truly(k api.Kin, t api.Times, person, day, known int) (int, api.Errno) {
	if e := checkAsked(k, person, anyFamily, day, known); e != api.OK {
		return 0, e
	}
	l, ok := counting(k, known).by(t)
	if !ok {
		return 0, api.ErrTimes
	}
	return l.on(day).families(person)[0], api.OK
}

// Count returns the persons who glean for a family by true terms, rising.
func Count(k api.Kin, t api.Times, family, day, known int) ([]int, api.Errno) {
	if e := checkAsked(k, anybody, family, day, known); e != api.OK {
		return nil, e
	}
	l, ok := counting(k, known).by(t)
	if !ok {
		return nil, api.ErrTimes
	}
	c := company{l.on(day), family}
	return personsWho(k, c.may), api.OK
}

// Show returns true terms by which a person gleans for a family.
func Show(k api.Kin, person, family, day, known int) (api.Times, api.Errno) {
	if e := checkAsked(k, person, family, day, known); e != api.OK {
		return api.Times{}, e
	}
	l := counting(k, known)
	c := company{l.on(day), family}
	if !c.may(person) {
		return api.Times{}, api.ErrNone
	}
	return aim{c, true}.times(l), api.OK // all who may do so at once
}

// Attain returns true terms by which the most, or the fewest, glean for a family.
func Attain(k api.Kin, family, day, known int, most bool) (api.Times, api.Errno) {
	if e := checkAsked(k, anybody, family, day, known); e != api.OK {
		return api.Times{}, e
	}
	l := counting(k, known)
	return aim{company{l.on(day), family}, most}.times(l), api.OK
}

// aim is what true terms are to attain: that the most glean for the family, or the fewest.
//
// Each person chooses a home and an absence, and each family a bond, from entries of their own. For the most, each family that may glean as the one asked for does so, each person has a home that leads there, or else any, and is not away if that may be: so all who may walk do, who carry for others. For the fewest, each family that may glean as another one does so, each person has no home, or one that leads elsewhere, and is away if that may be, with nobody who walks if that may be: so all who may not walk do not. No choice stands against another one.
type aim struct {
	company
	most bool
}

// times returns true terms that attain the aim: only the entries that are to decide have the day if they need not.
func (a aim) times(l ledger) api.Times {
	return api.Times{
		Stays: a.terms(l[kindStay], kindStay, a.rankHome),
		Bonds: a.terms(l[kindBond], kindBond, a.rankBond),
		Aways: a.terms(l[kindAway], kindAway, a.rankAway),
	}
}

func (a aim) terms(list []note, kind int, rank func(note) int) []api.Term {
	var terms []api.Term
	for _, n := range list {
		term := n.narrow()
		if a.chosen(kind, n.of, rank).source == n.source {
			term = n.wide()
		}
		terms = append(terms, term)
	}
	return terms
}

// chosen returns the note of the greatest rank that may decide for a person, or a family.
func (a aim) chosen(kind, of int, rank func(note) int) note {
	var best note
	greatest := -1
	for n := range a.deciding(kind, of) {
		if r := rank(n); r > greatest {
			best, greatest = n, r
		}
	}
	return best
}

// leadsWell reports whether a family may glean as one by which the aim is attained.
func (a aim) leadsWell(family int) bool {
	leads := a.leads(family)
	if a.most {
		return slices.Contains(leads, a.family)
	}
	return !slices.Equal(leads, []int{a.family})
}

func (a aim) rankBond(n note) int {
	if n.to == n.of { // no bond
		return rankOf((n.to == a.family) == a.most, false)
	}
	return rankOf(a.leadsWell(n.to), false)
}

func (a aim) rankHome(n note) int {
	if a.most {
		return rankOf(n.to != homeless && a.leadsWell(n.to), n.to != homeless)
	}
	return rankOf(n.to == homeless, a.leadsWell(n.to))
}

func (a aim) rankAway(n note) int {
	carried := n.to != notAway && n.to != hiredOut
	if a.most {
		return rankOf(n.to == notAway, carried && a.walks(n.to).is)
	}
	alone := n.to == hiredOut || carried && a.walks(n.to).isNot
	return rankOf(alone, n.to != notAway)
}

// rankOf returns 2 for what is best, 1 for what is good, and else 0.
func rankOf(best, good bool) int {
	switch {
	case best:
		return 2
	case good:
		return 1
	}
	return 0
}
