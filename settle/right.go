package settle

import (
	"cmp"
	"slices"

	"leazing/api"
)

// Where returns where a person is settled on a day by some reading, rising; -1: nowhere.
func Where(l []api.Proof, person, day, known int) ([]int, api.Errno) {
	if e := checkAsked(l, person, anywhere, day, known); e != api.OK {
		return nil, e
	}
	where, ok := opened(l, known).where([]int{person}, day)
	if !ok {
		return nil, api.ErrUnread
	}
	return where[person], api.OK
}

// where returns where each of some persons is settled on a day by some reading; false if there is no reading.
func (r register) where(persons []int, day int) (map[int][]int, bool) {
	where, ok := map[int][]int{}, false
	for reading := range r.readings {
		ok = true
		held := r.holdings(reading)
		for _, person := range persons {
			where[person] = put(where[person], settledBy(held, person, day), cmp.Compare)
		}
	}
	return where, ok
}

// Right tells whether a person is settled in a parish on a day by all readings, by none, or by some.
func Right(l []api.Proof, person, parish, day, known int) (int, api.Errno) {
	if e := checkAsked(l, person, parish, day, known); e != api.OK {
		return 0, e
	}
	answer, ok := opened(l, known).right(person, parish, day)
	if !ok {
		return 0, api.ErrUnread
	}
	return answer, api.OK
}

// right returns the answer of Right; false if there is no reading.
func (r register) right(person, parish, day int) (int, bool) {
	answer, ok := api.No, false
search:
	for reading := range r.readings {
		here := api.No
		if settledBy(r.holdings(reading), person, day) == parish {
			here = api.Yes
		}
		switch {
		case !ok:
			answer, ok = here, true
		case answer != here:
			answer = api.Maybe
			break search // whatever further readings say
		}
	}
	return answer, ok
}

// Show returns the first reading by which a person is settled in a parish on a day, or, if settled is false, is not.
func Show(l []api.Proof, person, parish, day, known int, settled bool) ([]int, api.Errno) {
	if e := checkAsked(l, person, parish, day, known); e != api.OK {
		return nil, e
	}
	r, e := opened(l, known), api.ErrUnread
	for reading := range r.readings {
		here := settledBy(r.holdings(reading), person, day) == parish
		if here == settled {
			return slices.Clone(reading), api.OK
		}
		e = api.ErrNone
	}
	return nil, e
}

// Persons returns the persons that proofs which count name, rising.
func Persons(l []api.Proof, known int) ([]int, api.Errno) {
	if e := checkAsked(l, anybody, anywhere, known); e != api.OK {
		return nil, e
	}
	return opened(l, known).persons(), api.OK
}

func (r register) persons() []int {
	var persons []int
	for _, p := range r.proofs {
		for _, person := range p.Persons {
			persons = put(persons, person, cmp.Compare)
		}
		if p.Kind == api.PfMarried {
			persons = put(persons, p.Other, cmp.Compare)
		}
	}
	return persons
}

// Belong returns the persons who are settled in a parish on a day by all readings, rising.
func Belong(l []api.Proof, parish, day, known int) ([]int, api.Errno) {
	return settledIn(l, parish, day, known, func(where []int) bool {
		return slices.Equal(where, []int{parish})
	})
}

// May returns the persons who are settled in a parish on a day by some reading, rising.
func May(l []api.Proof, parish, day, known int) ([]int, api.Errno) {
	return settledIn(l, parish, day, known, func(where []int) bool {
		return slices.Contains(where, parish)
	})
}

// settledIn returns the persons for whom it is so where they are settled.
func settledIn(l []api.Proof, parish, day, known int, isSo func(where []int) bool) ([]int, api.Errno) {
	if e := checkAsked(l, anybody, parish, day, known); e != api.OK {
		return nil, e
	}
	r := opened(l, known)
	persons := r.persons()
	where, ok := r.where(persons, day)
	if !ok {
		return nil, api.ErrUnread
	}
	return slices.DeleteFunc(persons, func(person int) bool { return !isSo(where[person]) }), api.OK
}
