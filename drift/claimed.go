package drift

import (
	"slices"

	"leazing/api"
)

// claimed is a field with claims that are valid for it.
type claimed struct {
	field
	claims []api.Claim
}

// claimedBy returns the field of a ground with claims; ErrGround or ErrClaims if they are not valid.
func claimedBy(g api.Ground, l []api.Claim) (claimed, api.Errno) {
	f, e := fieldOf(g)
	if e != api.OK {
		return claimed{}, e
	}
	if !within(len(l), 1, api.MaxClaims) {
		return claimed{}, api.ErrClaims
	}
	seen := map[int]bool{}
	for _, c := range l {
		if CheckClaim(c) != api.OK || c.To >= len(g.Cells) || seen[c.Family] {
			return claimed{}, api.ErrClaims
		}
		seen[c.Family] = true
	}
	return claimed{f, l}, api.OK
}

// isSharing reports whether drifts are a sharing.
func (c claimed) isSharing(drifts []api.Drift) bool {
	if len(drifts) != len(c.claims) {
		return false
	}
	next := 0
	for i, d := range drifts {
		claim := c.claims[i]
		if d.From < max(next, claim.From) || d.From > d.To || d.To > claim.To {
			return false
		}
		next = d.To + 1
	}
	return true
}

// without returns the field without the claim that has an index.
func (c claimed) without(index int) claimed {
	return claimed{c.field, slices.Delete(slices.Clone(c.claims), index, index+1)}
}

// Turn returns the claims in the order of a day.
func Turn(g api.Ground, l []api.Claim, day int) ([]api.Claim, api.Errno) {
	if e := CheckClaims(g, l); e != api.OK {
		return nil, e
	}
	if !within(day, 0, api.MaxDay) {
		return nil, api.ErrDay
	}
	first := day % len(l)
	return slices.Concat(l[first:], l[:first]), api.OK
}
