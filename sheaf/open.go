package sheaf

import (
	"slices"

	"leazing/api"
)

const (
	dayHours = 24
	never    = api.MaxHour + 1
)

// Clear answers whether the field is clear at an hour.
func Clear(p api.Plot, hour, known int) (int, api.Errno) {
	stood, e := Stood(p, hour, known)
	if e != api.OK {
		return 0, e
	}
	return answer(stood.Lo == 0, stood.Hi == 0), api.OK
}

// First returns the least and the greatest hour from which the field is clear by some true numbers.
func First(p api.Plot, known int) (api.Range, api.Errno) {
	if e := checkDay(p, known); e != api.OK {
		return api.Range{}, e
	}
	s := sceneOf(p, known)
	stood, ok := s.stood()
	if !ok {
		return api.Range{}, api.ErrFalse
	}
	hours := []int{0}
	for hour := range s.byHour {
		hours = append(hours, hour)
	}
	first := api.Range{Lo: never, Hi: never}
	// Nothing grows from an hour to a later one, so the first hour is the last one met from behind.
	for _, hour := range slices.Backward(hours) {
		r := stood[s.cartedBy(hour)]
		if r.Lo == 0 {
			first.Lo = hour
		}
		if r.Hi == 0 {
			first.Hi = hour
		}
	}
	return first, api.OK
}

// Shut reports whether the field is shut at an hour.
func Shut(p api.Plot, hour, known int) (bool, api.Errno) {
	if e := checkHour(p, hour, known); e != api.OK {
		return false, e
	}
	return sceneOf(p, known).shut(hour), api.OK
}

// Open answers whether the field is open at an hour.
func Open(p api.Plot, hour, known int) (int, api.Errno) {
	if e := checkHour(p, hour, known); e != api.OK {
		return 0, e
	}
	s := sceneOf(p, known)
	if !s.sound() {
		return 0, api.ErrFalse
	}
	if s.shut(hour) {
		return api.No, api.OK
	}
	none, some := api.Range{}, api.Range{Lo: 1, Hi: api.MaxSheaves}
	open, notOpen := s.with(hour, none), s.with(hour, some).sound()
	if before, come := s.geese(hour); come {
		open = open.with(before, some)
		notOpen = notOpen || s.with(before, none).sound()
	}
	return answer(open.sound(), !notOpen), api.OK
}

// Truly reports whether the field is open at an hour by true numbers.
func Truly(p api.Plot, c api.Carting, hour, known int) (bool, api.Errno) {
	if e := checkHour(p, hour, known); e != api.OK {
		return false, e
	}
	t, ok := sceneOf(p, known).truth(c)
	if !ok {
		return false, api.ErrCarting
	}
	if t.shut(hour) || t.left(hour) > 0 {
		return false, api.OK
	}
	before, come := t.geese(hour)
	return !come || t.left(before) > 0, api.OK
}

// Moved returns the hours of the loads of the plot, rising, at which Stood would be another one without a source.
func Moved(p api.Plot, source, known int) ([]int, api.Errno) {
	if e := checkDay(p, known); e != api.OK {
		return nil, e
	}
	less, e := Without(p, source)
	if e != api.OK {
		return nil, e
	}
	s, without := sceneOf(p, known), sceneOf(less, known)
	var moved []int
	for _, l := range p.Loads {
		a, sound := s.stoodAt(l.Hour)
		b, soundWithout := without.stoodAt(l.Hour)
		if a != b || sound != soundWithout {
			moved = append(moved, l.Hour)
		}
	}
	slices.Sort(moved)
	return slices.Compact(moved), api.OK
}

// shut reports whether bell, guard sheaf or rain shut the field at an hour.
func (s scene) shut(hour int) bool {
	ofDay := hour % dayHours
	if ofDay < api.BellOn || ofDay >= api.BellOff {
		return true
	}
	return slices.ContainsFunc(s.Spells, func(sp api.Spell) bool { return sp.From <= hour && hour <= sp.To })
}

// geese returns the hour at which the field must not have been clear yet, lest the geese have come by another one; false if there is none.
func (s scene) geese(hour int) (int, bool) {
	before := hour - dayHours*s.Geese
	return before, s.Geese > 0 && before >= 0
}

// answer tells whether something is so by some true numbers, and by all.
func answer(some, all bool) int {
	switch {
	case all:
		return api.Yes
	case some:
		return api.Maybe
	}
	return api.No
}
