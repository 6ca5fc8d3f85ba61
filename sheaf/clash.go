package sheaf

import (
	"slices"

	"leazing/api"
)

// Sound reports whether the plot is sound, as known.
func Sound(p api.Plot, known int) (bool, api.Errno) {
	if e := checkDay(p, known); e != api.OK {
		return false, e
	}
	return sceneOf(p, known).sound(), api.OK
}

// Clash returns the sources, rising, of loads and stands that contradict each other.
func Clash(p api.Plot, known int) ([]int, api.Errno) {
	if e := checkDay(p, known); e != api.OK {
		return nil, e
	}
	s := sceneOf(p, known)
	if s.sound() {
		return nil, api.ErrSound
	}
	var clash []int
	left := s.sources()
	for _, source := range falling(left) {
		delete(left, source)
		if s.by(left).sound() {
			left[source] = true
			clash = append(clash, source)
		}
	}
	slices.Reverse(clash)
	return clash, api.OK
}

// CheckClash returns OK if by are the rising sources of loads and stands that contradict each other, and otherwise ErrSound.
func CheckClash(p api.Plot, known int, by []int) api.Errno {
	if e := checkDay(p, known); e != api.OK {
		return e
	}
	s := sceneOf(p, known)
	some, ok := s.some(by)
	if !ok || s.by(some).sound() {
		return api.ErrSound
	}
	for _, source := range by {
		delete(some, source)
		if !s.by(some).sound() {
			return api.ErrSound
		}
		some[source] = true
	}
	return api.OK
}

// sources returns the sources of the loads and stands.
func (s scene) sources() map[int]bool {
	sources := map[int]bool{}
	for _, l := range s.Loads {
		sources[l.Source] = true
	}
	for _, stand := range s.Stands {
		sources[stand.Source] = true
	}
	return sources
}

func falling(sources map[int]bool) []int {
	var list []int
	for source := range sources {
		list = append(list, source)
	}
	slices.Sort(list)
	slices.Reverse(list)
	return list
}

// some returns the sources of a list; false unless they rise and are those of loads and stands.
func (s scene) some(list []int) (map[int]bool, bool) {
	all, some := s.sources(), map[int]bool{}
	last := 0
	for _, source := range list {
		if source <= last || !all[source] {
			return nil, false
		}
		some[source] = true
		last = source
	}
	return some, true
}

// by returns the scene whose true numbers are those by some of the loads and stands.
func (s scene) by(some map[int]bool) scene {
	s.carted = slices.Clone(s.carted)
	for i, l := range s.carted {
		if !some[l.Source] {
			s.carted[i].Sheaves = api.Range{Lo: 0, Hi: api.MaxSheaves}
		}
	}
	leftOut := func(stand api.Stand) bool { return !some[stand.Source] }
	s.Stands = slices.DeleteFunc(slices.Clone(s.Stands), leftOut)
	return s
}
