package settle

import (
	"slices"

	"leazing/api"
)

// register is the proofs that count, and what all their readings need.
type register struct {
	proofs []api.Proof
	odd    [][]int // see oddOnes
	claims []claim
}

// registerOf returns the register of valid proofs, all of which count.
func registerOf(l []api.Proof) register { return register{l, oddOnes(l), claims(l)} }

// opened returns the register of valid proofs, as known on a day.
func opened(l []api.Proof, known int) register { return registerOf(counting(l, known)) }

// fits reports whether the proof with the index at can be of a person, if those before it are of the chosen ones.
func (r register) fits(person, at int, chosen []int) bool {
	for _, before := range r.odd[at] {
		if chosen[before] == person {
			return false
		}
	}
	p := r.proofs[at]
	return person != p.Other && slices.Contains(p.Persons, person)
}

// readings yields the readings in order. Each is in the same memory: who keeps one copies it.
func (r register) readings(yield func(reading []int) bool) {
	reading := make([]int, len(r.proofs))
	var choose func(at int) bool
	choose = func(at int) bool {
		if at == len(reading) {
			return yield(reading)
		}
		for _, person := range r.proofs[at].Persons {
			reading[at] = person
			if r.fits(person, at, reading) && !choose(at+1) {
				return false
			}
		}
		return true
	}
	choose(0)
}

func (r register) isReading(persons []int) bool {
	if len(persons) != len(r.proofs) {
		return false
	}
	for at, person := range persons {
		if !r.fits(person, at, persons) {
			return false
		}
	}
	return true
}

// isRead reports whether there is a reading.
func (r register) isRead() bool {
	for range r.readings {
		return true
	}
	return false
}

// CheckReading returns OK for a reading, and otherwise ErrReading.
func CheckReading(l []api.Proof, known int, reading []int) api.Errno {
	if e := checkAsked(l, anybody, anywhere, known); e != api.OK {
		return e
	}
	if !opened(l, known).isReading(reading) {
		return api.ErrReading
	}
	return api.OK
}

// Readings returns how many readings there are.
func Readings(l []api.Proof, known int) (int, api.Errno) {
	if e := checkAsked(l, anybody, anywhere, known); e != api.OK {
		return 0, e
	}
	count := 0
	for range opened(l, known).readings {
		count++
	}
	return count, api.OK
}

// Reading returns the reading that has n before it.
func Reading(l []api.Proof, known, n int) ([]int, api.Errno) {
	if e := checkAsked(l, anybody, anywhere, known); e != api.OK {
		return nil, e
	}
	before := 0
	for reading := range opened(l, known).readings {
		if before == n {
			return slices.Clone(reading), api.OK
		}
		before++
	}
	return nil, api.ErrNone
}
