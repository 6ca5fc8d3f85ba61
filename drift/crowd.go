package drift

import "leazing/api"

// Crowded returns the first crowd, by First, and then by Last; ErrWide if there is a sharing.
//
// Let each family, in turn, take the first cell that it can. If there is none for one of them, each of those before it, back to one that begins where it can first, has the cell behind that of the one before it: so these are a crowd.
func Crowded(g api.Ground, l []api.Claim) (api.Crowd, api.Errno) {
	c, e := claimedBy(g, l)
	if e != api.OK {
		return api.Crowd{}, e
	}
	for first := range l {
		for last := first; last < len(l); last++ {
			if c.areCrowded(first, last) {
				return api.Crowd{First: first, Last: last}, api.OK
			}
		}
	}
	return api.Crowd{}, api.ErrWide
}

// CheckCrowd returns OK for a crowd, and otherwise ErrGround, ErrClaims or ErrWide.
func CheckCrowd(g api.Ground, l []api.Claim, c api.Crowd) api.Errno {
	on, e := claimedBy(g, l)
	if e != api.OK {
		return e
	}
	inOrder := c.First >= 0 && c.First <= c.Last && c.Last < len(l)
	if inOrder && on.areCrowded(c.First, c.Last) {
		return api.OK
	}
	return api.ErrWide
}

// areCrowded reports whether less cells than claims lie between the beginning of one claim and the end of another.
func (c claimed) areCrowded(first, last int) bool {
	cells := c.claims[last].To - c.claims[first].From + 1
	return max(0, cells) < last-first+1
}
