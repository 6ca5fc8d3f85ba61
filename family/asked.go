package family

import (
	"slices"

	"leazing/api"
)

// Homes returns the homes that a person has by some true terms, rising.
func Homes(k api.Kin, person, day, known int) ([]int, api.Errno) {
	if e := checkAsked(k, person, anyFamily, day, known); e != api.OK {
		return nil, e
	}
	return opened(k, day, known).homes(person), api.OK
}

// Leads returns the families as which a family gleans by some true terms, rising.
func Leads(k api.Kin, family, day, known int) ([]int, api.Errno) {
	if e := checkAsked(k, anybody, family, day, known); e != api.OK {
		return nil, e
	}
	return opened(k, day, known).leads(family), api.OK
}

// Families returns the families for which a person gleans by some true terms, rising; 0 among them, if by some for none.
func Families(k api.Kin, person, day, known int) ([]int, api.Errno) {
	if e := checkAsked(k, person, anyFamily, day, known); e != api.OK {
		return nil, e
	}
	return opened(k, day, known).families(person), api.OK
}

// Gleans answers whether a person gleans.
func Gleans(k api.Kin, person, day, known int) (int, api.Errno) {
	if e := checkAsked(k, person, anyFamily, day, known); e != api.OK {
		return 0, e
	}
	return opened(k, day, known).gleans(person).answer(), api.OK
}

// For answers whether a person gleans for a family.
func For(k api.Kin, person, family, day, known int) (int, api.Errno) {
	if e := checkAsked(k, person, family, day, known); e != api.OK {
		return 0, e
	}
	return company{opened(k, day, known), family}.chance(person).answer(), api.OK
}

// company is who gleans for a family.
type company struct {
	scene
	family int
}

func (c company) chance(person int) chance {
	families := c.families(person)
	return chance{slices.Contains(families, c.family), !slices.Equal(families, []int{c.family})}
}

func (c company) surely(person int) bool { return !c.chance(person).isNot }

func (c company) may(person int) bool { return c.chance(person).is }

// Sure returns the persons who glean for a family by all true terms, rising.
func Sure(k api.Kin, family, day, known int) ([]int, api.Errno) {
	if e := checkAsked(k, anybody, family, day, known); e != api.OK {
		return nil, e
	}
	c := company{opened(k, day, known), family}
	return personsWho(k, c.surely), api.OK
}

// May returns the persons who glean for a family by some true terms, rising.
func May(k api.Kin, family, day, known int) ([]int, api.Errno) {
	if e := checkAsked(k, anybody, family, day, known); e != api.OK {
		return nil, e
	}
	c := company{opened(k, day, known), family}
	return personsWho(k, c.may), api.OK
}

// Heads returns the least and the greatest number of persons who glean for a family. Attain shows why these are as many as surely do, and as may.
func Heads(k api.Kin, family, day, known int) (api.Range, api.Errno) {
	if e := checkAsked(k, anybody, family, day, known); e != api.OK {
		return api.Range{}, e
	}
	c := company{opened(k, day, known), family}
	return api.Range{Lo: len(personsWho(k, c.surely)), Hi: len(personsWho(k, c.may))}, api.OK
}

// personsWho returns the persons of all stays for whom something is so, rising. Nobody else has a home.
func personsWho(k api.Kin, isSo func(person int) bool) []int {
	return slices.DeleteFunc(persons(k), func(person int) bool { return !isSo(person) })
}

// Changed returns the persons for whom Families is another list as known later, rising.
func Changed(k api.Kin, day, known, later int) ([]int, api.Errno) {
	if e := checkAsked(k, anybody, anyFamily, day, known, later); e != api.OK {
		return nil, e
	}
	return differing(k, opened(k, day, known).families, opened(k, day, later).families), api.OK
}

// Moved returns the persons for whom Families would be another list without all that has a source, rising.
func Moved(k api.Kin, source, day, known int) ([]int, api.Errno) {
	if e := checkAsked(k, anybody, anyFamily, day, known); e != api.OK {
		return nil, e
	}
	if !hasSource(k, source) {
		return nil, api.ErrNone
	}
	less := without(k, source)
	return differing(k, opened(k, day, known).families, opened(less, day, known).families), api.OK
}

// differing returns the persons of all stays to whom two answers differ, rising.
func differing(k api.Kin, one, other func(person int) []int) []int {
	return personsWho(k, func(person int) bool { return !slices.Equal(one(person), other(person)) })
}
