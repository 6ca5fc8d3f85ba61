package settle

import (
	"cmp"
	"slices"

	"leazing/api"
)

// Add returns the proofs with one more, at its place by Sources.
func Add(l []api.Proof, p api.Proof) ([]api.Proof, api.Errno) {
	if e := Check(l); e != api.OK {
		return nil, e
	}
	if e := CheckProof(p); e != api.OK {
		return nil, e
	}
	if hasSource(l, p.Source) {
		return nil, api.ErrTwice
	}
	with := put(slices.Clone(l), p, bySource)
	if Check(with) != api.OK {
		return nil, api.ErrLong
	}
	return copied(with), api.OK
}

// Without returns the proofs without the one that has the source.
func Without(l []api.Proof, source int) ([]api.Proof, api.Errno) {
	if e := Check(l); e != api.OK {
		return nil, e
	}
	if !hasSource(l, source) {
		return nil, api.ErrNone
	}
	return copied(without(l, source)), api.OK
}

// Dates returns the days on which a proof becomes known, or ends.
func Dates(l []api.Proof) ([]int, api.Errno) {
	if e := Check(l); e != api.OK {
		return nil, e
	}
	var days []int
	for _, p := range l {
		days = put(days, p.Known, cmp.Compare)
		if p.Until != 0 {
			days = put(days, p.Until, cmp.Compare)
		}
	}
	return days, api.OK
}

// Counting returns the sources of the proofs that count.
func Counting(l []api.Proof, known int) ([]int, api.Errno) {
	if e := checkAsked(l, anybody, anywhere, known); e != api.OK {
		return nil, e
	}
	return sources(counting(l, known)), api.OK
}

// put puts x at its place in a list in order, unless an equal one is there already.
func put[T any](list []T, x T, compare func(a, b T) int) []T {
	at, found := slices.BinarySearchFunc(list, x, compare)
	if found {
		return list
	}
	return slices.Insert(list, at, x)
}

func bySource(p, q api.Proof) int { return cmp.Compare(p.Source, q.Source) }

// copied returns a copy of proofs that shares no persons with them.
func copied(l []api.Proof) []api.Proof {
	l = slices.Clone(l)
	for i, p := range l {
		l[i].Persons = slices.Clone(p.Persons)
	}
	return l
}

// counting returns the proofs that count, as known on a day.
func counting(l []api.Proof, known int) []api.Proof {
	return slices.DeleteFunc(slices.Clone(l), func(p api.Proof) bool {
		return p.Known > known || p.Until != 0 && p.Until <= known
	})
}

func without(l []api.Proof, source int) []api.Proof {
	return slices.DeleteFunc(slices.Clone(l), func(p api.Proof) bool { return p.Source == source })
}

func hasSource(l []api.Proof, source int) bool {
	return slices.ContainsFunc(l, func(p api.Proof) bool { return p.Source == source })
}

func sources(l []api.Proof) []int {
	var list []int
	for _, p := range l {
		list = append(list, p.Source)
	}
	return list
}
