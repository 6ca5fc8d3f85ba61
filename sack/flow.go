package sack

import (
	"slices"

	"leazing/api"
)

// CheckFlow returns OK for true gallons, and otherwise ErrSacks, ErrDay or ErrFlow.
func CheckFlow(s api.Sacks, known int, flow []int) api.Errno {
	if e := checkDays(s, known); e != api.OK {
		return e
	}
	if !lookAt(s, known).areTrue(flow) {
		return api.ErrFlow
	}
	return api.OK
}

// Had returns what a family has at the end of a day by true gallons; ErrSacks, ErrSpot, ErrDay or ErrFlow.
func Had(s api.Sacks, flow []int, spot api.Spot, known int) (int, api.Errno) {
	if e := checkSpot(s, spot, known); e != api.OK {
		return 0, e
	}
	l := lookAt(s, known)
	if !l.areTrue(flow) {
		return 0, api.ErrFlow
	}
	return l.had(flow, spot), api.OK
}

// Have returns the least and the greatest amount that a family has at the end of a day; ErrSacks, ErrSpot, ErrDay or ErrClash.
func Have(s api.Sacks, spot api.Spot, known int) (api.Range, api.Errno) {
	if e := checkSpot(s, spot, known); e != api.OK {
		return api.Range{}, e
	}
	n, e := filled(lookAt(s, known), nothing)
	if e != api.OK {
		return api.Range{}, e
	}
	return n.ends(n.heldAt(spot)), api.OK
}

// Reach returns true gallons by which a family has the most at the end of a day, or the least; ErrSacks, ErrSpot, ErrDay or ErrClash.
func Reach(s api.Sacks, spot api.Spot, known int, most bool) ([]int, api.Errno) {
	if e := checkSpot(s, spot, known); e != api.OK {
		return nil, e
	}
	n, e := filled(lookAt(s, known), nothing)
	if e != api.OK {
		return nil, e
	}
	n.push(n.heldAt(spot), most)
	return n.flow(), api.OK
}

// Went returns the least and the greatest gallons of a pass; ErrSacks, ErrDay, ErrTold or ErrClash.
func Went(s api.Sacks, source, known int) (api.Range, api.Errno) {
	n, pass, e := told(s, source, known)
	if e != api.OK {
		return api.Range{}, e
	}
	return n.ends(pass), api.OK
}

// Attain returns true gallons by which the most went by a pass, or the least; ErrSacks, ErrDay, ErrTold or ErrClash.
func Attain(s api.Sacks, source, known int, most bool) ([]int, api.Errno) {
	n, pass, e := told(s, source, known)
	if e != api.OK {
		return nil, e
	}
	n.push(pass, most)
	return n.flow(), api.OK
}

// told returns the filled net of sacks, and the edge of the pass that has a source; ErrSacks, ErrDay, ErrTold or ErrClash.
func told(s api.Sacks, source, known int) (net, *edge, api.Errno) {
	if e := checkDays(s, known); e != api.OK {
		return net{}, nil, e
	}
	l := lookAt(s, known)
	i := slices.IndexFunc(l.Passes, func(p api.Pass) bool { return p.Source == source })
	if i < 0 {
		return net{}, nil, api.ErrTold
	}
	n, e := filled(l, nothing)
	if e != api.OK {
		return net{}, nil, e
	}
	return n, n.edges[i], api.OK
}

// filled returns the net of a look, by which true gallons pass; ErrClash if there are none.
func filled(l look, isApart func(api.Pass) bool) (net, api.Errno) {
	n := netOf(l, isApart)
	if _, has := n.fill(); has {
		return net{}, api.ErrClash
	}
	return n, api.OK
}

// heldAt returns the edge of what a family has at the end of a day: that of its last spot up to this day; or one by which nothing can pass, if it has none.
func (n net) heldAt(at api.Spot) *edge {
	held := &edge{}
	for _, s := range n.spots {
		if s.Family == at.Family && s.Day <= at.Day {
			held = n.held[s]
		}
	}
	return held
}

// push lets as much pass by an edge of a filled net as can, or as little. It returns how much.
func (n net) push(e *edge, most bool) int {
	s := side{e, !most}
	n.add(s, s.room())
	return e.gallons
}

// ends returns the least and the greatest gallons that can pass by an edge of a filled net.
func (n net) ends(e *edge) api.Range {
	lo := n.push(e, false)
	hi := n.push(e, true)
	return api.Range{Lo: lo, Hi: hi}
}

// flow returns the gallons of all passes.
func (n net) flow() []int {
	var flow []int
	for _, e := range n.edges[:len(n.Passes)] {
		flow = append(flow, e.gallons)
	}
	return flow
}
