package sack

import (
	"iter"

	"leazing/api"
)

// widest is for how many gallons the ways have room that are looked for first.
const widest = 1 << 13

// Outside the families there are two spots, so that what passes there by some of the passes can be told from the rest.
var (
	outside = api.Spot{Family: 0, Day: 0}
	apart   = api.Spot{Family: 0, Day: 1}
)

// edge is what moves from a spot to another one: how many gallons of it are let pass, and between which bounds.
type edge struct {
	from, to    api.Spot
	least, most int
	gallons     int
}

// side is an edge, seen from the spot where it begins; or, if it is the back, from where it ends.
type side struct {
	*edge
	back bool
}

// near returns the spot from which the edge is seen.
func (s side) near() api.Spot { return side{s.edge, !s.back}.far() }

// far returns the spot at the other end.
func (s side) far() api.Spot {
	if s.back {
		return s.from
	}
	return s.to
}

// room returns how many more gallons can pass to the far end; at the back, how many fewer can come from there.
func (s side) room() int {
	if s.back {
		return s.gallons - s.least
	}
	return s.most - s.gallons
}

// pass lets so many more gallons pass to the far end.
func (s side) pass(gallons int) {
	if s.back {
		gallons = -gallons
	}
	s.gallons += gallons
}

// net is a look whose spots are joined by edges. What a family has moves from each of its spots to its next one, or at last outside; so at each spot, and outside, just as much leaves as comes.
type net struct {
	look
	sides  map[api.Spot][]side // of the edges at each spot
	edges  []*edge             // all of them: those of the passes first, in order
	held   map[api.Spot]*edge  // what a family has at the end of the day
	across *edge               // what comes to the families apart, less what goes there
}

// netOf returns the net of a look, by which nothing passes yet. What passes by some passes comes from, or goes, apart.
func netOf(l look, isApart func(api.Pass) bool) net {
	n := net{look: l, sides: map[api.Spot][]side{}, held: map[api.Spot]*edge{}}
	for _, p := range l.Passes {
		out := outside
		if isApart(p) {
			out = apart
		}
		n.join(orElse(from(p), out), orElse(to(p), out), p.Gallons)
	}
	for i, s := range l.spots {
		next := outside
		if i+1 < len(l.spots) && l.spots[i+1].Family == s.Family {
			next = l.spots[i+1]
		}
		n.held[s] = n.join(s, next, l.bounds(s))
	}
	n.across = n.join(outside, apart, api.Range{Lo: 0, Hi: plenty})
	return n
}

// orElse returns a spot, or another one if it is none of a family.
func orElse(s, other api.Spot) api.Spot {
	if s.Family == 0 {
		return other
	}
	return s
}

// nothing is apart.
func nothing(api.Pass) bool { return false }

// join returns a new edge of the net.
func (n *net) join(near, far api.Spot, bounds api.Range) *edge {
	e := &edge{from: near, to: far, least: bounds.Lo, most: bounds.Hi}
	n.edges = append(n.edges, e)
	n.sides[near] = append(n.sides[near], side{e, false})
	n.sides[far] = append(n.sides[far], side{e, true})
	return e
}

// open yields the sides of the edges at a spot that have room for so many gallons.
func (n net) open(at api.Spot, gallons int) iter.Seq[side] {
	return func(yield func(side) bool) {
		for _, s := range n.sides[at] {
			if s.room() >= gallons && !yield(s) {
				return
			}
		}
	}
}

// send looks for a way from the far end of a side to its near one, by other edges that have room for some gallons, and lets as many as can, and at most so many as are to be sent, pass along it. It returns how many, and the spots that it looked at.
func (n net) send(s side, gallons, room int) (int, map[api.Spot]bool) {
	reached := map[api.Spot]bool{}
	var find func(at api.Spot, gallons int) int
	find = func(at api.Spot, gallons int) int {
		if at == s.near() {
			return gallons
		}
		reached[at] = true
		for next := range n.open(at, room) {
			if next.edge == s.edge || reached[next.far()] {
				continue
			}
			if sent := find(next.far(), min(gallons, next.room())); sent > 0 {
				next.pass(sent)
				return sent
			}
		}
		return 0
	}
	sent := find(s.far(), gallons)
	return sent, reached
}

// add lets more gallons pass to the far end of a side, as many as can, and at most so many. If that are fewer, it returns the spots that can be reached from there, of which the near end is none.
//
// It looks for wide ways first, so that there are few of them, however many gallons there are.
func (n net) add(s side, gallons int) map[api.Spot]bool {
	var reached map[api.Spot]bool
widths:
	for room := widest; room > 0; room /= 2 {
		for gallons >= room {
			sent, tried := n.send(s, gallons, room)
			if sent == 0 {
				reached = tried
				continue widths
			}
			s.pass(sent)
			gallons -= sent
		}
	}
	return reached
}
