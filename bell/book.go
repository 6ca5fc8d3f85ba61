package bell

import "leazing/api"

// Bind binds all strokes; ErrWatch.
func Bind(w api.Watch) (api.Watch, api.Errno) {
	if e := Check(w); e != api.OK {
		return api.Watch{}, e
	}
	return bound(w), api.OK
}

func bound(w api.Watch) api.Watch {
	w.Bound = len(w.Strokes)
	return copied(w)
}

// Tear returns what is left of a watch when strokes were torn out that are not bound; ErrWatch.
func Tear(w api.Watch, left int) (api.Watch, api.Errno) {
	if e := Check(w); e != api.OK {
		return api.Watch{}, e
	}
	loose := len(w.Strokes) - w.Bound
	w.Strokes = w.Strokes[:w.Bound+modulo(left, loose+1)]
	return copied(w), api.OK
}

func modulo(a, n int) int { return (a%n + n) % n }

// Recopy writes the book anew; ErrWatch.
func Recopy(w api.Watch) (api.Watch, api.Errno) {
	r, e := read(w)
	if e != api.OK {
		return api.Watch{}, e
	}
	w.Strokes = nil
	for s := range r.anew {
		w.Strokes = append(w.Strokes, s)
	}
	return bound(w), api.OK
}

// anew yields the strokes of a book that says the same.
func (r *reading) anew(yield func(api.Stroke) bool) {
	for _, p := range r.pages {
		for s := range p.anew {
			if !yield(s) {
				return
			}
		}
	}
}

// anew yields the strokes that say what the page does. Tallies stay clean, if they come after the wants.
func (p *page) anew(yield func(api.Stroke) bool) {
	for other := range p.others {
		if p.tally[other] != 0 && !p.clean(other) && !yield(p.tallyStroke(other, p.tally[other])) {
			return
		}
	}
	if p.wants != 0 && !yield(p.wantsStroke(p.wants)) {
		return
	}
	for other := range p.others {
		if p.clean(other) && !yield(p.tallyStroke(other, p.tally[other])) {
			return
		}
	}
	for other := range p.others {
		if p.asked[other] != 0 && !yield(p.askedStroke(other, p.asked[other])) {
			return
		}
	}
	if p.open {
		yield(p.bellStroke(opens))
	}
}
