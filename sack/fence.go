package sack

import (
	"slices"

	"leazing/api"
)

// Fence returns spots that show that sacks are not sound; ErrSacks, ErrDay, or ErrFit if they are.
func Fence(s api.Sacks, known int) (api.Fence, api.Errno) {
	if e := checkDays(s, known); e != api.OK {
		return api.Fence{}, e
	}
	fence, has := netOf(lookAt(s, known), nothing).fill()
	if !has {
		return api.Fence{}, api.ErrFit
	}
	return fence, api.OK
}

// CheckFence returns OK if spots show that sacks are not sound, and otherwise ErrSacks, ErrDay or ErrFence.
func CheckFence(s api.Sacks, known int, f api.Fence) api.Errno {
	if e := checkDays(s, known); e != api.OK {
		return e
	}
	l := lookAt(s, known)
	if l.canFence(f.Spots) && l.shows(f) {
		return api.OK
	}
	return api.ErrFence
}

// canFence reports whether spots are strictly increasing, on days on which something passed or was seen. If there are none, they show nothing.
func (l look) canFence(spots []api.Spot) bool {
	last := outside
	for _, s := range spots {
		if !isFamily(s.Family) || !slices.Contains(l.days, s.Day) || compareSpots(last, s) >= 0 {
			return false
		}
		last = s
	}
	return true
}

// shows reports whether more surely leaves the spots of a fence than can come to them; or, if it is over, more surely comes than can leave.
func (l look) shows(f api.Fence) bool {
	if len(f.Spots) == 1 {
		if bounds := l.bounds(f.Spots[0]); bounds.Lo > bounds.Hi {
			return true
		}
	}
	inside := map[api.Spot]bool{}
	for _, s := range f.Spots {
		inside[s] = true
	}
	var come, leave []api.Range
	for _, s := range f.Spots {
		for _, m := range l.moves(s) {
			switch {
			case inside[m.other]:
			case m.comes:
				come = append(come, m.bounds)
			default:
				leave = append(leave, m.bounds)
			}
		}
	}
	if f.Over {
		come, leave = leave, come
	}
	return total(leave...).Lo > total(come...).Hi
}

// total returns the bounds of a sum.
func total(ranges ...api.Range) api.Range {
	var all api.Range
	for _, r := range ranges {
		all.Lo += r.Lo
		all.Hi += r.Hi
	}
	return all
}

// move is what moves at a spot: where it comes from or goes to, and its bounds.
type move struct {
	other  api.Spot
	comes  bool
	bounds api.Range
}

// moves returns what moves at a spot on one of the days.
func (l look) moves(at api.Spot) []move {
	var moves []move
	for _, p := range l.Passes {
		if to(p) == at {
			moves = append(moves, move{from(p), true, p.Gallons})
		}
		if from(p) == at {
			moves = append(moves, move{to(p), false, p.Gallons})
		}
	}
	i := slices.Index(l.days, at.Day)
	if i > 0 {
		before := api.Spot{Family: at.Family, Day: l.days[i-1]}
		moves = append(moves, move{before, true, l.bounds(before)})
	}
	next := outside
	if i+1 < len(l.days) {
		next = api.Spot{Family: at.Family, Day: l.days[i+1]}
	}
	return append(moves, move{next, false, l.bounds(at)})
}

// fill lets pass by each edge of the net at least what must. If that cannot be, it returns a fence that shows why; false, if it can.
//
// Where two hoards of one spot contradict each other, the spot shows it alone. Where an edge lacks gallons and no way is left, all edges that leave what was reached pass as much as they may, and those that come to it no more than they must, of which this one lacks some. So more must come to what was reached than may leave it.
func (n net) fill() (api.Fence, bool) {
	for _, e := range n.edges {
		if e.least > e.most {
			return api.Fence{Spots: []api.Spot{e.from}}, true
		}
	}
	for _, e := range n.edges {
		reached := n.add(side{e, false}, e.least-e.gallons)
		if e.gallons < e.least {
			return n.fenceOf(reached), true
		}
	}
	return api.Fence{}, false
}

// fenceOf returns the fence of what was reached; or, if what is outside was, that of all other spots. Between two of its spots a family has what it had at the first one: these days are in the fence if the second one is, so that just what it had at the first one crosses the fence, if anything does.
func (l look) fenceOf(reached map[api.Spot]bool) api.Fence {
	f := api.Fence{Over: !reached[outside]}
	last := outside
	for _, s := range l.spots {
		for _, day := range l.days {
			isSince := s.Family != last.Family || day > last.Day
			if reached[s] == f.Over && isSince && day <= s.Day {
				f.Spots = append(f.Spots, api.Spot{Family: s.Family, Day: day})
			}
		}
		last = s
	}
	return f
}
