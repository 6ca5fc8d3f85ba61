package sheaf

import (
	"cmp"
	"slices"

	"leazing/api"
)

// scene is a plot as known on a day: it has only the loads, stands and spells that count.
type scene struct {
	api.Plot
	carted []api.Load // its loads in the order in which they were carted
}

// sceneOf returns the scene of a valid plot.
func sceneOf(p api.Plot, known int) scene {
	s := scene{Plot: filtered(p, func(n note) bool { return n.counts(known) })}
	s.carted = slices.Clone(s.Loads)
	// The sort is stable, so that loads of one hour stay in the order of their sources.
	slices.SortStableFunc(s.carted, func(a, b api.Load) int { return cmp.Compare(a.Hour, b.Hour) })
	return s
}

// byHour yields the hours at which loads were carted, one after the other, each with its loads.
func (s scene) byHour(yield func(hour int, loads []api.Load) bool) {
	for rest := s.carted; len(rest) > 0; {
		hour, n := rest[0].Hour, 1
		for n < len(rest) && rest[n].Hour == hour {
			n++
		}
		if !yield(hour, rest[:n]) {
			return
		}
		rest = rest[n:]
	}
}

// cartedBy returns how many loads had been carted after those of an hour.
func (s scene) cartedBy(hour int) int {
	count := 0
	for h, loads := range s.byHour {
		if h > hour {
			break
		}
		count += len(loads)
	}
	return count
}

// with returns the scene with one more stand, which has no source.
func (s scene) with(hour int, sheaves api.Range) scene {
	s.Stands = append(slices.Clone(s.Stands), api.Stand{Hour: hour, Sheaves: sheaves})
	return s
}

// bounds returns the bounds that Sown and the stands set to what stood before the first load, and after each one.
func (s scene) bounds() []api.Range {
	bounds := make([]api.Range, len(s.carted)+1)
	for i := range bounds {
		bounds[i] = api.Range{Lo: 0, Hi: api.MaxSheaves}
	}
	bounds[0] = s.Sown
	for _, stand := range s.Stands {
		at := s.cartedBy(stand.Hour)
		bounds[at] = meet(bounds[at], stand.Sheaves)
	}
	return bounds
}

// stood returns what stood before the first load, and after each one, by all true numbers; false if there are none.
//
// Each load bounds only the difference of what stood before and after it. So what is within the bounds of all later
// loads, and can then be reached from Sown, is just what true numbers attain.
func (s scene) stood() ([]api.Range, bool) {
	var before, after []passing
	for _, load := range s.carted {
		c := cart{load}
		before = append(before, c.before)
		after = append(after, c.after)
	}
	bounds := s.bounds()
	slices.Reverse(bounds)
	slices.Reverse(before)
	kept, ok := passOn(bounds, before)
	if !ok {
		return nil, false
	}
	slices.Reverse(kept)
	return passOn(kept, after)
}

// stoodAt returns what stood after the loads of an hour; false if there are no true numbers.
func (s scene) stoodAt(hour int) (api.Range, bool) {
	stood, ok := s.stood()
	if !ok {
		return api.Range{}, false
	}
	return stood[s.cartedBy(hour)], true
}

func (s scene) sound() bool {
	_, ok := s.stood()
	return ok
}

// cart is what a load does to what stood.
type cart struct{ api.Load }

// after returns what may have stood after the load, if stood was what may have stood before it.
func (c cart) after(stood api.Range) api.Range {
	return api.Range{Lo: stood.Lo - c.Sheaves.Hi, Hi: stood.Hi - c.Sheaves.Lo}
}

// before returns what may have stood before the load, if stood was what may have stood after it.
func (c cart) before(stood api.Range) api.Range {
	return api.Range{Lo: stood.Lo + c.Sheaves.Lo, Hi: stood.Hi + c.Sheaves.Hi}
}

type passing func(api.Range) api.Range

// passOn passes the first bound on to each further one, and keeps what is within it; false if nothing is left.
func passOn(bounds []api.Range, passings []passing) ([]api.Range, bool) {
	kept := slices.Clone(bounds)
	for i := range kept {
		if i > 0 {
			kept[i] = meet(passings[i-1](kept[i-1]), kept[i])
		}
		if kept[i].Lo > kept[i].Hi {
			return nil, false
		}
	}
	return kept, true
}

// meet returns the numbers of both ranges; if there are none, its Lo is greater than its Hi.
func meet(a, b api.Range) api.Range {
	return api.Range{Lo: max(a.Lo, b.Lo), Hi: min(a.Hi, b.Hi)}
}

func inRange(n int, r api.Range) bool { return n >= r.Lo && n <= r.Hi }
