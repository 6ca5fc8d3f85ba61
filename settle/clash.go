package settle

import (
	"slices"

	"leazing/api"
)

// Clash returns the sources, rising, of proofs that contradict each other.
func Clash(l []api.Proof, known int) ([]int, api.Errno) {
	if e := checkAsked(l, anybody, anywhere, known); e != api.OK {
		return nil, e
	}
	left := counting(l, known)
	if registerOf(left).isRead() {
		return nil, api.ErrRead
	}
	for _, source := range slices.Backward(sources(left)) {
		if fewer := without(left, source); !registerOf(fewer).isRead() {
			left = fewer
		}
	}
	return sources(left), api.OK
}

// CheckClash returns OK if by are the rising sources of proofs that contradict each other, none of which can be left out, and otherwise ErrRead.
func CheckClash(l []api.Proof, known int, by []int) api.Errno {
	if e := checkAsked(l, anybody, anywhere, known); e != api.OK {
		return e
	}
	some, ok := having(counting(l, known), by)
	if !ok || registerOf(some).isRead() {
		return api.ErrRead
	}
	for _, source := range by {
		if !registerOf(without(some, source)).isRead() {
			return api.ErrRead
		}
	}
	return api.OK
}

// having returns the proofs that have the sources; false unless these rise and are all there.
func having(l []api.Proof, by []int) ([]api.Proof, bool) {
	some := slices.DeleteFunc(slices.Clone(l), func(p api.Proof) bool { return !slices.Contains(by, p.Source) })
	return some, slices.Equal(sources(some), by)
}
