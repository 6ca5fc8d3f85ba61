package settle

import (
	"slices"

	"leazing/api"
)

// Rests returns the sources, rising, of the proofs without each of which alone Right would be another answer.
func Rests(l []api.Proof, person, parish, day, known int) ([]int, api.Errno) {
	if e := checkAsked(l, person, parish, day, known); e != api.OK {
		return nil, e
	}
	count := counting(l, known)
	answer, ok := registerOf(count).right(person, parish, day)
	if !ok {
		return nil, api.ErrUnread
	}
	return slices.DeleteFunc(sources(count), func(source int) bool {
		other, _ := registerOf(without(count, source)).right(person, parish, day)
		return other == answer
	}), api.OK
}

// Moved returns the persons, rising, for whom Where would be another list, or have another error, without the proof that has the source.
func Moved(l []api.Proof, source, day, known int) ([]int, api.Errno) {
	if e := checkAsked(l, anybody, anywhere, day, known); e != api.OK {
		return nil, e
	}
	if !hasSource(l, source) {
		return nil, api.ErrNone
	}
	with, less := opened(l, known), opened(without(l, source), known)
	persons := with.persons()
	// Each person has a place by a reading, if only nowhere: a list is empty just where Where has an error.
	before, _ := with.where(persons, day)
	after, _ := less.where(persons, day)
	return slices.DeleteFunc(persons, func(person int) bool {
		return slices.Equal(before[person], after[person])
	}), api.OK
}
