package drift

import "leazing/api"

const (
	maxId   = 99      // of a chain
	maxGain = 1000000 // Num and Den of a gain
)

func within(n, lo, hi int) bool { return lo <= n && n <= hi }

// CheckChain returns OK for a valid chain, and otherwise ErrChain.
func CheckChain(c api.Chain) api.Errno {
	link := c.Link.Lo >= 1 && c.Link.Lo <= c.Link.Hi && c.Link.Hi <= api.MaxLink
	if link && within(c.Id, 1, maxId) {
		return api.OK
	}
	return api.ErrChain
}

// CheckCell returns OK for a valid cell, and otherwise ErrCell.
func CheckCell(c api.Cell) api.Errno {
	if within(c.Chain, 1, maxId) && within(c.Links, 1, api.MaxLinks) && within(c.Worth, 0, api.MaxWorth) {
		return api.OK
	}
	return api.ErrCell
}

// Check returns OK for a valid ground, and otherwise ErrGround.
func Check(g api.Ground) api.Errno {
	_, e := fieldOf(g)
	return e
}

// CheckClaim returns OK for a valid claim, and otherwise ErrClaim.
func CheckClaim(c api.Claim) api.Errno {
	cells := c.From >= 0 && c.From <= c.To && c.To < api.MaxCells
	if cells && within(c.Family, 1, api.MaxFamily) && within(c.Heads, 1, api.MaxHeads) {
		return api.OK
	}
	return api.ErrClaim
}

// CheckClaims returns OK for claims that are valid for a ground, and otherwise ErrGround or ErrClaims.
func CheckClaims(g api.Ground, l []api.Claim) api.Errno {
	_, e := claimedBy(g, l)
	return e
}

// CheckDrifts returns OK for a sharing, and otherwise ErrGround, ErrClaims or ErrDrifts.
func CheckDrifts(g api.Ground, l []api.Claim, drifts []api.Drift) api.Errno {
	c, e := claimedBy(g, l)
	if e == api.OK && !c.isSharing(drifts) {
		return api.ErrDrifts
	}
	return e
}
