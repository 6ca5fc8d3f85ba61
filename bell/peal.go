package bell

import (
	"iter"

	"leazing/api"
)

// Tell returns what is told to a parish: only what is bound, so that it stays true; ErrWatch or ErrArg.
func Tell(w api.Watch, to int) (api.Peal, api.Errno) {
	if e := firstOf(Check(w), verdict(isParish(to) && to != w.Me, api.ErrArg)); e != api.OK {
		return api.Peal{}, e
	}
	w.Strokes = w.Strokes[:w.Bound]
	r, e := read(w)
	if e != api.OK {
		return api.Peal{}, e
	}
	peal := api.Peal{From: r.Me, To: to}
	for _, p := range r.pages {
		if p.isOther(to) {
			peal.Told = append(peal.Told, api.Told{Field: p.Field, No: p.tally[to], Wants: p.wants})
		}
	}
	return peal, api.OK
}

// Hear takes a peal; ErrWatch, ErrPeal or ErrLong.
func Hear(w api.Watch, p api.Peal) (api.Watch, api.Errno) {
	r, e := read(w)
	if e != api.OK {
		return api.Watch{}, e
	}
	if !isPeal(p) || p.To != r.Me {
		return api.Watch{}, api.ErrPeal
	}
	return written(w, r.hearing(p))
}

// hearing yields the strokes that say what is new in a peal.
func (r *reading) hearing(peal api.Peal) iter.Seq[api.Stroke] {
	return func(yield func(api.Stroke) bool) {
		for _, told := range peal.Told {
			p := r.page(told.Field)
			if p == nil || !p.isOther(peal.From) {
				continue
			}
			if told.Wants > p.asked[peal.From] && !yield(p.askedStroke(peal.From, told.Wants)) {
				return
			}
			if p.brings(peal.From, told.No) && !yield(p.tallyStroke(peal.From, told.No)) {
				return
			}
		}
	}
}

// brings reports whether a tally comes here, if another parish tells that it has a number.
func (p *page) brings(other, no int) bool {
	return no > p.tally[other] && p.comes(other, no) && !p.open
}
