package sack

import (
	"slices"

	"leazing/api"
)

// Sound reports whether there are true gallons; ErrSacks or ErrDay.
func Sound(s api.Sacks, known int) (bool, api.Errno) {
	if e := checkDays(s, known); e != api.OK {
		return false, e
	}
	return isSound(lookAt(s, known).Sacks), api.OK
}

// Clash returns the Sources of hoards that cannot all be true, without any one of which they could; ErrSacks, ErrDay, or ErrFit if there are none.
func Clash(s api.Sacks, known int) ([]int, api.Errno) {
	if e := checkDays(s, known); e != api.OK {
		return nil, e
	}
	left := lookAt(s, known).Sacks
	if isSound(left) {
		return nil, api.ErrFit
	}
	for i := range slices.Backward(left.Hoards) {
		if less := withoutHoard(left, i); !isSound(less) {
			left = less
		}
	}
	var by []int
	for _, h := range left.Hoards {
		by = append(by, h.Source)
	}
	return by, api.OK
}

// CheckClash returns OK if hoards cannot all be true, while without any one of them they could; otherwise ErrSacks, ErrDay or ErrFit.
func CheckClash(s api.Sacks, known int, by []int) api.Errno {
	if e := checkDays(s, known); e != api.OK {
		return e
	}
	chosen, are := lookAt(s, known).choose(by)
	if !are || isSound(chosen) {
		return api.ErrFit
	}
	for i := range chosen.Hoards {
		if !isSound(withoutHoard(chosen, i)) {
			return api.ErrFit
		}
	}
	return api.OK
}

// choose returns the sacks that have only the hoards with some Sources; false, if these are not strictly increasing ones of hoards that count.
func (l look) choose(by []int) (api.Sacks, bool) {
	chosen := api.Sacks{Passes: l.Passes}
	rest := l.Hoards
	for _, source := range by {
		i := slices.IndexFunc(rest, func(h api.Hoard) bool { return h.Source == source })
		if i < 0 {
			return api.Sacks{}, false
		}
		chosen.Hoards = append(chosen.Hoards, rest[i])
		rest = rest[i+1:]
	}
	return chosen, true
}

// isSound reports whether there are true gallons, if all passes and hoards count.
func isSound(s api.Sacks) bool {
	_, has := netOf(lookOf(s), nothing).fill()
	return !has
}

// withoutHoard returns the sacks without the hoard that has an index.
func withoutHoard(s api.Sacks, index int) api.Sacks {
	return api.Sacks{Passes: s.Passes, Hoards: slices.Delete(slices.Clone(s.Hoards), index, index+1)}
}
