package bell

import (
	"iter"
	"slices"

	"leazing/api"
)

const (
	shuts = 0 // what a stroke of the bell does, by its number
	opens = 1
)

func (p *page) tallyStroke(other, no int) api.Stroke {
	return api.Stroke{Kind: api.SkTally, Field: p.Field, Other: other, No: no}
}

func (p *page) wantsStroke(no int) api.Stroke {
	return api.Stroke{Kind: api.SkWants, Field: p.Field, No: no}
}

func (p *page) askedStroke(other, no int) api.Stroke {
	return api.Stroke{Kind: api.SkAsked, Field: p.Field, Other: other, No: no}
}

func (p *page) bellStroke(no int) api.Stroke {
	return api.Stroke{Kind: api.SkBell, Field: p.Field, No: no}
}

// copied returns a copy of a watch.
func copied(w api.Watch) api.Watch {
	w.Borders, w.Strokes = slices.Clone(w.Borders), slices.Clone(w.Strokes)
	return w
}

// written returns a watch with more strokes in its book; ErrLong if there would be too many, or the number of one is too great.
func written(w api.Watch, more iter.Seq[api.Stroke]) (api.Watch, api.Errno) {
	longer := copied(w)
	for s := range more {
		if len(longer.Strokes) == api.MaxStrokes || s.No > api.MaxTally {
			return api.Watch{}, api.ErrLong
		}
		longer.Strokes = append(longer.Strokes, s)
	}
	return longer, api.OK
}

// New returns the watch of a parish with these borders; ErrArg or ErrBorder.
func New(me int, borders []api.Border) (api.Watch, api.Errno) {
	e := firstOf(verdict(isParish(me), api.ErrArg), verdict(areBorders(me, borders), api.ErrBorder))
	if e != api.OK {
		return api.Watch{}, e
	}
	return copied(api.Watch{Me: me, Borders: borders}), api.OK
}

// Want writes that the parish wants to open a field; ErrWatch, ErrMine, ErrRung or ErrLong.
func Want(w api.Watch, field int) (api.Watch, api.Errno) {
	p, e := pageOf(w, field)
	if e != api.OK {
		return api.Watch{}, e
	}
	if p.open {
		return api.Watch{}, api.ErrRung
	}
	return written(w, p.wanting)
}

func (p *page) wanting(yield func(api.Stroke) bool) {
	if !p.wanted() {
		yield(p.wantsStroke(p.wants + 1))
	}
}

// Ring opens a field; ErrWatch, ErrMine, ErrRung, ErrTally or ErrLong.
func Ring(w api.Watch, field int) (api.Watch, api.Errno) {
	p, e := pageOf(w, field)
	if e != api.OK {
		return api.Watch{}, e
	}
	if e := firstOf(verdict(!p.open, api.ErrRung), verdict(p.holdsAll(), api.ErrTally)); e != api.OK {
		return api.Watch{}, e
	}
	return written(w, p.ringing)
}

func (p *page) ringing(yield func(api.Stroke) bool) {
	if yield(p.bellStroke(opens)) && p.wanted() {
		yield(p.wantsStroke(p.wants + 1))
	}
}

// Shut shuts a field; ErrWatch, ErrMine, ErrShut or ErrLong.
func Shut(w api.Watch, field int) (api.Watch, api.Errno) {
	p, e := pageOf(w, field)
	if e != api.OK {
		return api.Watch{}, e
	}
	if !p.open {
		return api.Watch{}, api.ErrShut
	}
	return written(w, p.shutting)
}

func (p *page) shutting(yield func(api.Stroke) bool) { yield(p.bellStroke(shuts)) }

// Serve gives tallies to those who ask for them; ErrWatch or ErrLong.
func Serve(w api.Watch) (api.Watch, api.Errno) {
	r, e := read(w)
	if e != api.OK {
		return api.Watch{}, e
	}
	return written(w, r.serving)
}

func (r *reading) serving(yield func(api.Stroke) bool) {
	for _, p := range r.pages {
		for other := range p.others {
			if p.gives(other) && !yield(p.tallyStroke(other, p.tally[other]+1)) {
				return
			}
		}
	}
}
