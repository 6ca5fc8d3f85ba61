package drift

import "leazing/api"

// Length returns the least and the greatest length of a drift.
func Length(g api.Ground, d api.Drift) (api.Range, api.Errno) {
	f, e := fieldWith(g, d)
	if e != api.OK {
		return api.Range{}, e
	}
	return f.span(f.links(d)), api.OK
}

// Longer answers whether a drift is longer than another one.
func Longer(g api.Ground, a, b api.Drift) (int, api.Errno) {
	f, e := fieldWith(g, a, b)
	if e != api.OK {
		return 0, e
	}
	// Links of one chain are of one length in both drifts, so that only what one has more of them counts.
	more := f.links(a)
	for i, n := range f.links(b) {
		more[i] -= n
	}
	span := f.span(more)
	switch {
	case span.Lo > 0:
		return api.Yes, api.OK
	case span.Hi <= 0:
		return api.No, api.OK
	}
	return api.Maybe, api.OK
}

// Truly returns how long a drift is by true links.
func Truly(g api.Ground, links []int, d api.Drift) (int, api.Errno) {
	f, e := fieldOf(g)
	if e != api.OK {
		return 0, e
	}
	if !f.areTrue(links) {
		return 0, api.ErrArg
	}
	if !f.has(d) {
		return 0, api.ErrDrift
	}
	var lengths []int
	for i, n := range f.links(d) {
		lengths = append(lengths, n*links[i])
	}
	return sum(lengths...), api.OK
}

// Worth returns what a drift is worth.
func Worth(g api.Ground, d api.Drift) (int, api.Errno) {
	f, e := fieldWith(g, d)
	if e != api.OK {
		return 0, e
	}
	return f.worth(d), api.OK
}

// areTrue reports whether links are true ones.
func (f field) areTrue(links []int) bool {
	if len(links) != len(f.Chains) {
		return false
	}
	for i, c := range f.Chains {
		if !within(links[i], c.Link.Lo, c.Link.Hi) {
			return false
		}
	}
	return true
}

// span returns the least and the greatest length of so many links of each chain, numbers that may be less than 0. Each chain stretches alone, so that all can add least, or most, at once.
func (f field) span(links []int) api.Range {
	var least, most []int
	for i, c := range f.Chains {
		low, high := links[i]*c.Link.Lo, links[i]*c.Link.Hi
		least = append(least, min(low, high))
		most = append(most, max(low, high))
	}
	return api.Range{Lo: sum(least...), Hi: sum(most...)}
}
