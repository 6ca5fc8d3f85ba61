package bell

import "leazing/api"

// Number returns the number of a tally; ErrWatch, ErrMine or ErrArg.
func Number(w api.Watch, field, other int) (int, api.Errno) {
	p, e := pageWith(w, field, other)
	if e != api.OK {
		return 0, e
	}
	return p.tally[other], api.OK
}

// Holds reports whether a tally is here; ErrWatch, ErrMine or ErrArg.
func Holds(w api.Watch, field, other int) (bool, api.Errno) {
	p, e := pageWith(w, field, other)
	return e == api.OK && p.holds(other), e
}

// Clean reports whether a tally is here, and came for what the parish still wants; ErrWatch, ErrMine or ErrArg.
func Clean(w api.Watch, field, other int) (bool, api.Errno) {
	p, e := pageWith(w, field, other)
	return e == api.OK && p.clean(other), e
}

// IsOpen reports whether a field is open; ErrWatch or ErrMine.
func IsOpen(w api.Watch, field int) (bool, api.Errno) {
	p, e := pageOf(w, field)
	return e == api.OK && p.open, e
}

// Wanted reports whether the parish wants to open a field; ErrWatch or ErrMine.
func Wanted(w api.Watch, field int) (bool, api.Errno) {
	p, e := pageOf(w, field)
	return e == api.OK && p.wanted(), e
}

// Asked returns the other parishes that want to open a field; ErrWatch or ErrMine.
func Asked(w api.Watch, field int) ([]int, api.Errno) {
	p, e := pageOf(w, field)
	if e != api.OK {
		return nil, e
	}
	return p.which(p.asks), api.OK
}

// Missing returns the parishes whose tallies of a field are not here; ErrWatch or ErrMine.
func Missing(w api.Watch, field int) ([]int, api.Errno) {
	p, e := pageOf(w, field)
	if e != api.OK {
		return nil, e
	}
	return p.which(p.lacks), api.OK
}

// Who returns the parishes that have a field open; ErrCrew or ErrMine.
func Who(l []api.Watch, field int) ([]int, api.Errno) {
	var open []int
	last := -1
	for _, w := range l {
		r, e := read(w)
		if e != api.OK || w.Me <= last {
			return nil, api.ErrCrew
		}
		if p := r.page(field); p != nil && p.open {
			open = append(open, w.Me)
		}
		last = w.Me
	}
	if !isField(field) {
		return nil, api.ErrMine
	}
	return open, api.OK
}
