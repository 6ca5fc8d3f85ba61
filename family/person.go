package family

import (
	"cmp"
	"slices"

	"leazing/api"
)

// chance tells whether something is so by some true terms, and whether it is not so by some.
type chance struct{ is, isNot bool }

// or returns the chance of what is so as the one or as the other is, by some true terms each.
func (c chance) or(d chance) chance { return chance{c.is || d.is, c.isNot || d.isNot} }

// and returns the chance of both together, if no entry bears on the one and on the other.
func (c chance) and(d chance) chance { return chance{c.is && d.is, c.isNot || d.isNot} }

func (c chance) answer() int {
	switch {
	case !c.is:
		return api.No
	case !c.isNot:
		return api.Yes
	}
	return api.Maybe
}

func chanceOf(is bool) chance { return chance{is, !is} }

// homes returns the homes that a person has by some true terms, rising.
func (s scene) homes(person int) []int {
	var list []int
	for n := range s.deciding(kindStay, person) {
		list = put(list, n.to, cmp.Compare)
	}
	return list
}

// fit returns the chance that a person has a home, and is not barred.
func (s scene) fit(person int) chance {
	if s.barred(person) {
		return chanceOf(false)
	}
	var c chance
	for n := range s.deciding(kindStay, person) {
		c = c.or(chanceOf(n.to != homeless))
	}
	return c
}

func (s scene) barred(person int) bool {
	return slices.ContainsFunc(s.notes[kindOffence][person], func(n note) bool { return n.surely(s.day) })
}

// walks returns the chance that a person walks.
func (s scene) walks(person int) chance {
	var c chance
	for n := range s.deciding(kindAway, person) {
		c = c.or(chanceOf(n.to == notAway))
	}
	return s.fit(person).and(c)
}

// gleans returns the chance that a person gleans. Who carries for the person is another one, whose entries are others too.
func (s scene) gleans(person int) chance {
	var c chance
	for n := range s.deciding(kindAway, person) {
		switch n.to {
		case notAway:
			c = c.or(chanceOf(true))
		case hiredOut:
			c = c.or(chanceOf(false))
		default:
			c = c.or(s.walks(n.to))
		}
	}
	return s.fit(person).and(c)
}

// families returns the families for which a person gleans by some true terms, rising; 0 among them, if by some for none.
func (s scene) families(person int) []int {
	var list []int
	gleans := s.gleans(person)
	if gleans.isNot {
		list = append(list, 0)
	}
	if !gleans.is {
		return list
	}
	for _, home := range s.homes(person) {
		if home == homeless {
			continue
		}
		for _, family := range s.leads(home) {
			list = put(list, family, cmp.Compare)
		}
	}
	return list
}
