package mill

import (
	"slices"

	"leazing/api"
)

// Level returns how many hours each family can have, as far as it wants them.
//
// Whoever wants more hours than it has was refused one more when no other one had more than that many, nor more than it wants: so the level is at most what it has. And each has as many as the least one of these, or as it wants: so the level is no less.
func Level(m api.Mill) (int, api.Errno) {
	if e := Check(m); e != api.OK {
		return 0, e
	}
	_, hours := filled(m)
	level := api.MaxTurns
	for i, c := range m.Comers {
		if hours[i] < c.Wants {
			level = min(level, hours[i])
		}
	}
	return level, api.OK
}

// Hours returns how many hours each comer gets.
func Hours(m api.Mill) ([]int, api.Errno) {
	if e := Check(m); e != api.OK {
		return nil, e
	}
	_, hours := filled(m)
	return hours, api.OK
}

// Share returns whose each hour is.
func Share(m api.Mill) ([]int, api.Errno) {
	if e := Check(m); e != api.OK {
		return nil, e
	}
	r, _ := filled(m)
	share := make([]int, m.Hours)
	for hour, holder := range r.holders {
		if holder != nobody {
			share[hour] = m.Comers[holder].Family
		}
	}
	return share, api.OK
}

// CheckShare returns OK for a sharing that gives each comer its hours, and otherwise ErrMill or ErrShare.
func CheckShare(m api.Mill, share []int) api.Errno {
	if e := Check(m); e != api.OK {
		return e
	}
	r, hours := filled(m)
	given, is := r.givenBy(share)
	if !is || !slices.Equal(given, hours) {
		return api.ErrShare
	}
	return api.OK
}

// givenBy returns how many hours each comer has by a share; false if that is no sharing.
func (r *rota) givenBy(share []int) ([]int, bool) {
	if len(share) != r.Hours {
		return nil, false
	}
	given := make([]int, len(r.Comers))
search:
	for hour, family := range share {
		if family == 0 {
			continue
		}
		for i, c := range r.Comers {
			if c.Family == family && isIn(hour, c.Hours) {
				given[i]++
				continue search
			}
		}
		return nil, false
	}
	return given, true
}
