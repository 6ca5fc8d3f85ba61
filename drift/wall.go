package drift

import "leazing/api"

// maxStart is the greatest number of a wall: a claim cannot begin even behind the last cell that a ground may have.
const maxStart = api.MaxCells + 1

// CheckWall returns OK if a wall shows that no sharing gives each family more than a gain; otherwise ErrGround, ErrClaims, ErrArg or ErrWall.
func CheckWall(g api.Ground, l []api.Claim, w api.Wall, than api.Gain) api.Errno {
	c, e := claimedBy(g, l)
	if e != api.OK {
		return e
	}
	if !gain(than).valid() {
		return api.ErrArg
	}
	if !c.isWall(w) || !c.shows(w, gain(than)) {
		return api.ErrWall
	}
	return api.OK
}

// isWall reports whether a wall has numbers for claims, the first of which begins where it can.
func (c claimed) isWall(w api.Wall) bool {
	if !within(w.First, 0, len(c.claims)-1) || !within(len(w.Starts), 2, len(c.claims)-w.First+1) {
		return false
	}
	for _, start := range w.Starts {
		if !within(start, 0, maxStart) {
			return false
		}
	}
	return w.Starts[0] == c.claims[w.First].From
}

// shows reports whether by a wall no claim gains more than a gain before the next one begins, and the last one not by any cells.
func (c claimed) shows(w api.Wall, than gain) bool {
	last := len(w.Starts) - 1
	for i, claim := range c.claims[w.First : w.First+last] {
		from, next := max(w.Starts[i], claim.From), w.Starts[i+1]
		if next <= from {
			return false
		}
		if c.gain(claim, api.Drift{From: from, To: next - 2}).compare(than) > 0 {
			return false
		}
	}
	return w.Starts[last]-1 > c.claims[w.First+last-1].To
}
