package drift

import "leazing/api"

// Least returns the least gain of the fairest sharings.
func Least(g api.Ground, l []api.Claim) (api.Gain, api.Errno) {
	best, e := fairestOf(g, l)
	return api.Gain(best.least), e
}

// Share returns a fairest sharing.
func Share(g api.Ground, l []api.Claim) ([]api.Drift, api.Errno) {
	best, e := fairestOf(g, l)
	return best.drifts, e
}

// Wall returns a wall that shows that no sharing is fairer.
func Wall(g api.Ground, l []api.Claim) (api.Wall, api.Errno) {
	best, e := fairestOf(g, l)
	return api.Wall{Starts: best.starts}, e
}

// Moved returns the families without whose claim the least gain would be another one, or there would be one only then, or no claim.
func Moved(g api.Ground, l []api.Claim) ([]int, api.Errno) {
	c, e := claimedBy(g, l)
	if e != api.OK {
		return nil, e
	}
	if len(l) == 1 {
		return []int{l[0].Family}, api.OK
	}
	all, shared := c.fairest()
	var moved []int
	for i, claim := range l {
		others, sharedByOthers := c.without(i).fairest()
		if shared != sharedByOthers || all.least != others.least {
			moved = append(moved, claim.Family)
		}
	}
	return moved, api.OK
}

// fairest is a fairest sharing, its least gain, and the starts of a wall that shows it, from the first claim on.
type fairest struct {
	drifts []api.Drift
	least  gain
	starts []int
}

// fairestOf returns what is fairest; ErrGround or ErrClaims if these are not valid, and ErrNarrow if there is no sharing.
func fairestOf(g api.Ground, l []api.Claim) (fairest, api.Errno) {
	c, e := claimedBy(g, l)
	if e != api.OK {
		return fairest{}, e
	}
	best, shared := c.fairest()
	if !shared {
		return fairest{}, api.ErrNarrow
	}
	return best, api.OK
}

// fairest returns what is fairest; false if there is no sharing. It searches for more than the least gain of the last sharing that was found, until a wall stands in the way.
func (c claimed) fairest() (fairest, bool) {
	next := c.search(gain{Num: -1, Den: 1}) // whoever has a drift gains more
	if !next.served {
		return fairest{}, false
	}
	var best fairest
	for next.served {
		best = fairest{drifts: next.drifts, least: c.least(next.drifts)}
		next = c.search(best.least)
	}
	best.starts = next.starts
	return best, true
}

// attempt is the drifts of claims, up to the first one for which there is none; and the cells before which these claims, and the next one, cannot begin.
type attempt struct {
	drifts []api.Drift
	starts []int
	served bool // each claim has a drift
}

// search finds a sharing by which each family gains more than a gain, or the starts of a wall.
//
// Each family in turn gets the drift that ends first of all by which it gains so much. So the next ones have all cells that any such sharing can leave to them: if one of them finds no drift, there is no such sharing.
func (c claimed) search(than gain) attempt {
	a := attempt{starts: []int{c.claims[0].From}}
	serve := func(claim api.Claim) bool {
		from := max(a.starts[len(a.starts)-1], claim.From)
		for d := range driftsFrom(from, claim.To) {
			if c.gain(claim, d).compare(than) > 0 {
				a.drifts = append(a.drifts, d)
				a.starts = append(a.starts, d.To+1)
				return true
			}
		}
		a.starts = append(a.starts, max(from, claim.To+1)+1)
		return false
	}
	for _, claim := range c.claims {
		if !serve(claim) {
			return a
		}
	}
	a.served = true
	return a
}
