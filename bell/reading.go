package bell

import "leazing/api"

// mark is what tells what a stroke does: its kind and its field.
type mark struct{ kind, field int }

// reading is a watch that is read: it has a page for each of its borders, in order.
type reading struct {
	api.Watch
	pages []*page
	does  map[mark]func(api.Stroke) bool
}

// unread returns the reading of a watch none of whose strokes has been read yet.
func unread(w api.Watch) *reading {
	r := &reading{Watch: w, does: map[mark]func(api.Stroke) bool{}}
	for _, b := range r.Borders {
		p := &page{Border: b, me: r.Me}
		r.pages = append(r.pages, p)
		r.does[mark{api.SkTally, b.Field}] = p.takeTally
		r.does[mark{api.SkWants, b.Field}] = p.takeWants
		r.does[mark{api.SkAsked, b.Field}] = p.takeAsked
		r.does[mark{api.SkBell, b.Field}] = p.takeBell
	}
	return r
}

// read returns the reading of a watch; ErrWatch.
func read(w api.Watch) (*reading, api.Errno) {
	right := isParish(w.Me) && areBorders(w.Me, w.Borders) && areStrokes(w.Strokes)
	if !right || !within(w.Bound, 0, len(w.Strokes)) {
		return nil, api.ErrWatch
	}
	r := unread(w)
	for _, s := range r.Strokes {
		take, found := r.does[mark{s.Kind, s.Field}]
		if !found || !take(s) {
			return nil, api.ErrWatch
		}
	}
	return r, api.OK
}

// page returns that of a field; nil if there is none.
func (r *reading) page(field int) *page {
	for _, p := range r.pages {
		if p.Field == field {
			return p
		}
	}
	return nil
}

// pageOf returns the page of a field in a watch; ErrWatch or ErrMine.
func pageOf(w api.Watch, field int) (*page, api.Errno) {
	r, e := read(w)
	if e != api.OK {
		return nil, e
	}
	p := r.page(field)
	return p, verdict(p != nil, api.ErrMine)
}

// pageWith returns the page of a field that is shared with another parish; ErrWatch, ErrMine or ErrArg.
func pageWith(w api.Watch, field, other int) (*page, api.Errno) {
	p, e := pageOf(w, field)
	if e != api.OK {
		return nil, e
	}
	if !p.isOther(other) {
		return nil, api.ErrArg
	}
	return p, api.OK
}
