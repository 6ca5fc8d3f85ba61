package family

import (
	"cmp"
	"iter"
	"slices"

	"leazing/api"
)

// What decides if no entry does: a person is nobody's, or is not away.
const (
	homeless = 0
	notAway  = -1
)

// hiredOut is in place of who carries for a person who is away.
const hiredOut = 0

// ledger is the notes of what counts, as known on a day: a list for each kind, in order.
type ledger [kinds][]note

// counting returns what counts of a valid kin.
func counting(k api.Kin, known int) ledger {
	var l ledger
	for kind, list := range entries(k) {
		l[kind] = make([]note, 0, len(list))
		for _, e := range list {
			if n := e.note(); n.counts(known) {
				l[kind] = append(l[kind], n)
			}
		}
	}
	return l
}

// scene is what a ledger says of one day.
type scene struct {
	day   int
	notes [kinds]map[int][]note  // by the persons, or families, that they are of
	leads func(family int) []int // as which families a family gleans by some true terms, rising
}

func (l ledger) on(day int) scene {
	s := scene{day: day}
	for kind, list := range l {
		s.notes[kind] = map[int][]note{}
		for _, n := range list {
			s.notes[kind][n.of] = append(s.notes[kind][n.of], n)
		}
	}
	s.leads = s.leaders()
	return s
}

// opened returns the scene of a valid kin.
func opened(k api.Kin, day, known int) scene { return counting(k, known).on(day) }

// deciding yields the notes of a person, or of a family, each of which decides by some true terms: its term has the day, and no term of a greater source has it. At last it yields a note without a source, if by some true terms no term has the day.
func (s scene) deciding(kind, of int) iter.Seq[note] {
	return func(yield func(note) bool) {
		for _, n := range slices.Backward(s.notes[kind][of]) {
			if !n.may(s.day) {
				continue
			}
			if !yield(n) || n.surely(s.day) {
				return
			}
		}
		yield(note{of: of, to: undecided(kind, of)})
	}
}

// undecided returns what is so if no entry decides.
func undecided(kind, of int) int {
	switch kind {
	case kindBond:
		return of
	case kindAway:
		return notAway
	}
	return homeless
}

// leaders returns the function that finds the families as which a family gleans by some true terms.
//
// Each family chooses among bonds of its own, so that all chains of such choices are those of some true terms.
func (s scene) leaders() func(family int) []int {
	found := map[int][]int{}
	var leads func(family int) []int
	leads = func(family int) []int {
		if list, ok := found[family]; ok {
			return list
		}
		var list []int
		for n := range s.deciding(kindBond, family) {
			if n.to == family {
				list = put(list, family, cmp.Compare)
				continue
			}
			for _, leader := range leads(n.to) {
				list = put(list, leader, cmp.Compare)
			}
		}
		found[family] = list
		return list
	}
	return leads
}
