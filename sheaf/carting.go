package sheaf

import "leazing/api"

// Stood returns the least and the greatest number of what stood after the loads of an hour.
func Stood(p api.Plot, hour, known int) (api.Range, api.Errno) {
	if e := checkHour(p, hour, known); e != api.OK {
		return api.Range{}, e
	}
	stood, ok := sceneOf(p, known).stoodAt(hour)
	if !ok {
		return api.Range{}, api.ErrFalse
	}
	return stood, api.OK
}

// Carted returns the least and the greatest number of a load.
func Carted(p api.Plot, source, known int) (api.Range, api.Errno) {
	if e := checkDay(p, known); e != api.OK {
		return api.Range{}, e
	}
	s := sceneOf(p, known)
	at, ok := s.place(source)
	if !ok {
		return api.Range{}, api.ErrSource
	}
	stood, ok := s.stood()
	if !ok {
		return api.Range{}, api.ErrFalse
	}
	before, after := stood[at], stood[at+1]
	between := api.Range{Lo: before.Lo - after.Hi, Hi: before.Hi - after.Lo}
	return meet(s.carted[at].Sheaves, between), api.OK
}

// CheckCarting returns OK for true numbers, and otherwise ErrCarting.
func CheckCarting(p api.Plot, known int, c api.Carting) api.Errno {
	if e := checkDay(p, known); e != api.OK {
		return e
	}
	if _, ok := sceneOf(p, known).truth(c); !ok {
		return api.ErrCarting
	}
	return api.OK
}

// Left returns what stood after the loads of an hour by true numbers.
func Left(p api.Plot, c api.Carting, hour, known int) (int, api.Errno) {
	if e := checkHour(p, hour, known); e != api.OK {
		return 0, e
	}
	t, ok := sceneOf(p, known).truth(c)
	if !ok {
		return 0, api.ErrCarting
	}
	return t.left(hour), api.OK
}

// Attain returns true numbers by which what stood after the loads of an hour is the greatest, or the least, number of Stood.
func Attain(p api.Plot, hour, known int, high bool) (api.Carting, api.Errno) {
	if e := checkHour(p, hour, known); e != api.OK {
		return api.Carting{}, e
	}
	s := sceneOf(p, known)
	stood, ok := s.stood()
	if !ok {
		return api.Carting{}, api.ErrFalse
	}
	// All that is required bounds a difference of what stood at two times. So the least numbers of all
	// times agree with each other, and so do the greatest ones: they attain the end at whatever hour.
	ends := make([]int, len(stood))
	for i, r := range stood {
		ends[i] = r.Lo
		if high {
			ends[i] = r.Hi
		}
	}
	return s.cartingOf(ends), api.OK
}

// place returns which of the loads, as they were carted, has the source.
func (s scene) place(source int) (int, bool) {
	for i, l := range s.carted {
		if l.Source == source {
			return i, true
		}
	}
	return 0, false
}

// cartingOf returns the numbers by which so much stood before the first load, and after each one.
func (s scene) cartingOf(stood []int) api.Carting {
	numbers := map[int]int{}
	for i, l := range s.carted {
		numbers[l.Source] = stood[i] - stood[i+1]
	}
	c := api.Carting{Sown: stood[0]}
	for _, l := range s.Loads {
		c.Loads = append(c.Loads, numbers[l.Source])
	}
	return c
}

// truth is a scene with true numbers.
type truth struct {
	scene
	sown    int
	numbers map[int]int // of the loads, by their sources
}

// truth returns the scene with true numbers; false if they are none.
func (s scene) truth(c api.Carting) (truth, bool) {
	if !inRange(c.Sown, s.Sown) || len(c.Loads) != len(s.Loads) {
		return truth{}, false
	}
	t := truth{scene: s, sown: c.Sown, numbers: map[int]int{}}
	for i, l := range s.Loads {
		if !inRange(c.Loads[i], l.Sheaves) {
			return truth{}, false
		}
		t.numbers[l.Source] = c.Loads[i]
	}
	for _, stand := range s.Stands {
		if !inRange(t.left(stand.Hour), stand.Sheaves) {
			return truth{}, false
		}
	}
	return t, t.left(api.MaxHour) >= 0
}

// left returns what stood after the loads of an hour.
func (t truth) left(hour int) int {
	left := t.sown
	for h, loads := range t.byHour {
		if h > hour {
			break
		}
		for _, l := range loads {
			left -= t.numbers[l.Source]
		}
	}
	return left
}
