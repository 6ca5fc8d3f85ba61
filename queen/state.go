package queen

import (
	"slices"

	"leazing/api"
	"leazing/bell"
	"leazing/book"
)

// Queen has six parishes with their watches, what was set up, and what is under way.
type Queen struct {
	parishes [api.MaxParishes]api.Parish
	watches  [api.MaxParishes]api.Watch
	setting  api.Setting
	letters  []api.Letter
	peals    []api.Peal
}

// New returns a queen.
func New() *Queen {
	q := &Queen{}
	for me := range api.MaxParishes {
		q.parishes[me] = must(book.NewParish(me))
		q.watches[me] = must(bell.New(me, bordersOf(me)))
	}
	return q
}

// bordersOf returns the borders that a parish shares.
func bordersOf(me int) []api.Border {
	all := []api.Border{
		{Field: 91, Parishes: 1<<0 | 1<<1 | 1<<2},
		{Field: 92, Parishes: 1<<2 | 1<<3},
		{Field: 93, Parishes: 1<<0 | 1<<3 | 1<<4 | 1<<5},
		{Field: 94, Parishes: 1<<1 | 1<<5},
	}
	return slices.DeleteFunc(all, func(b api.Border) bool { return b.Parishes>>me&1 == 0 })
}

func isParish(n int) bool { return within(n, 0, api.MaxParishes-1) }

// has reports whether there is a queen, and a parish.
func (q *Queen) has(parish int) bool { return q != nil && isParish(parish) }

// Parish returns a parish.
func (q *Queen) Parish(n int) api.Parish {
	if !q.has(n) {
		return api.Parish{}
	}
	p := q.parishes[n]
	for quire, strips := range p.Bound.Strips {
		p.Bound.Strips[quire] = slices.Clone(strips)
	}
	p.Log = slices.Clone(p.Log)
	return p
}

// Watch returns the watch of a parish.
func (q *Queen) Watch(n int) api.Watch {
	if !q.has(n) {
		return api.Watch{}
	}
	w := q.watches[n]
	w.Borders, w.Strokes = slices.Clone(w.Borders), slices.Clone(w.Strokes)
	return w
}

// Setting returns what was set up.
func (q *Queen) Setting() api.Setting {
	if q == nil {
		return api.Setting{}
	}
	s := q.setting
	s.Meadows, s.Claims, s.Scales = slices.Clone(s.Meadows), slices.Clone(s.Claims), slices.Clone(s.Scales)
	s.Ground.Chains, s.Ground.Cells = slices.Clone(s.Ground.Chains), slices.Clone(s.Ground.Cells)
	s.Mill.Comers = slices.Clone(s.Mill.Comers)
	return s
}

// Letters returns the letters under way.
func (q *Queen) Letters() []api.Letter {
	if q == nil {
		return nil
	}
	letters := slices.Clone(q.letters)
	for i, l := range letters {
		letters[i].Records = slices.Clone(l.Records)
	}
	return letters
}

// Peals returns the peals under way.
func (q *Queen) Peals() []api.Peal {
	if q == nil {
		return nil
	}
	peals := slices.Clone(q.peals)
	for i, p := range peals {
		peals[i].Told = slices.Clone(p.Told)
	}
	return peals
}
