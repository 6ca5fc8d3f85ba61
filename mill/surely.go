package mill

import (
	"slices"

	"leazing/api"
)

// Comes answers whether an hour is a family's, by all sharings that give each comer its hours.
func Comes(m api.Mill, family, hour int) (int, api.Errno) {
	i, e := find(m, family)
	if e != api.OK {
		return 0, e
	}
	if !within(hour, 0, m.Hours-1) {
		return 0, api.ErrHour
	}
	_, hours := filled(m)
	if !serves(shut(m, hour, family), hours) {
		return api.Yes, api.OK
	}
	if hours[i] == 0 || !isIn(hour, m.Comers[i].Hours) {
		return api.No, api.OK
	}
	// It can have this hour if all that is demanded beside it can be served without it.
	hours[i]--
	if !serves(shut(m, hour, families(m)...), hours) {
		return api.No, api.OK
	}
	return api.Maybe, api.OK
}

// Idle returns the hours that nobody has by some sharing that gives each comer its hours.
func Idle(m api.Mill) ([]int, api.Errno) {
	if e := Check(m); e != api.OK {
		return nil, e
	}
	_, hours := filled(m)
	var idle []int
	for hour := range m.Hours {
		if serves(shut(m, hour, families(m)...), hours) {
			idle = append(idle, hour)
		}
	}
	return idle, api.OK
}

// Moved returns the other families that get another number of hours without a family.
func Moved(m api.Mill, family int) ([]int, api.Errno) {
	i, e := find(m, family)
	if e != api.OK {
		return nil, e
	}
	others := without(m, i)
	_, before := filled(m)
	before = slices.Delete(before, i, i+1)
	_, after := filled(others)
	var moved []int
	for j, c := range others.Comers {
		if before[j] != after[j] {
			moved = append(moved, c.Family)
		}
	}
	slices.Sort(moved)
	return moved, api.OK
}
