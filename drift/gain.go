package drift

import (
	"cmp"
	"slices"

	"leazing/api"
)

// gain is one that can be compared.
type gain api.Gain

func (a gain) valid() bool { return within(a.Num, 0, maxGain) && within(a.Den, 1, maxGain) }

func (a gain) compare(b gain) int { return cmp.Compare(a.Num*b.Den, b.Num*a.Den) }

// gainOf returns a worth by the head, in lowest terms.
func gainOf(worth, heads int) gain {
	common := divisor(worth, heads)
	return gain{Num: worth / common, Den: heads / common}
}

// divisor returns the greatest common divisor of two numbers.
func divisor(a, b int) int {
	for b != 0 {
		a, b = b, a%b
	}
	return a
}

// Compare returns -1, 0 or 1 if a is less than b, as great, or greater.
func Compare(a, b api.Gain) (int, api.Errno) {
	if !gain(a).valid() || !gain(b).valid() {
		return 0, api.ErrArg
	}
	return gain(a).compare(gain(b)), api.OK
}

// Gains returns what each family gains by a sharing.
func Gains(g api.Ground, l []api.Claim, drifts []api.Drift) ([]api.Gain, api.Errno) {
	c, e := claimedBy(g, l)
	if e != api.OK {
		return nil, e
	}
	if !c.isSharing(drifts) {
		return nil, api.ErrDrifts
	}
	var gains []api.Gain
	for _, a := range c.gains(drifts) {
		gains = append(gains, api.Gain(a))
	}
	return gains, api.OK
}

// gains returns what the families gain by drifts, one for each of them.
func (c claimed) gains(drifts []api.Drift) []gain {
	var gains []gain
	for i, d := range drifts {
		gains = append(gains, c.gain(c.claims[i], d))
	}
	return gains
}

// gain returns what the family of a claim gains by a drift.
func (f field) gain(of api.Claim, d api.Drift) gain { return gainOf(f.worth(d), of.Heads) }

// least returns what the family that gains least gains by a sharing.
func (c claimed) least(sharing []api.Drift) gain {
	return slices.MinFunc(c.gains(sharing), gain.compare)
}
