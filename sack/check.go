package sack

import "leazing/api"

// note is what passes and hoards have in common.
type note struct{ source, known, until int }

func noteOfPass(p api.Pass) note   { return note{p.Source, p.Known, p.Until} }
func noteOfHoard(h api.Hoard) note { return note{h.Source, h.Known, h.Until} }

func (n note) valid() bool {
	ends := n.until == 0 || n.until > n.known && isDay(n.until)
	return isSource(n.source) && isDay(n.known) && ends
}

// counts reports whether what has the note counts, as known on a day.
func (n note) counts(known int) bool {
	return n.known <= known && (n.until == 0 || n.until > known)
}

func within(n, lo, hi int) bool { return lo <= n && n <= hi }

func isSource(n int) bool { return within(n, 1, api.MaxSource) }

func isDay(n int) bool { return within(n, 0, api.MaxDay) }

func isFamily(n int) bool { return within(n, 1, api.MaxFamily) }

// isEnd reports whether a pass may come from there, or go there.
func isEnd(n int) bool { return n == 0 || isFamily(n) }

func areGallons(r api.Range) bool { return r.Lo >= 0 && r.Lo <= r.Hi && r.Hi <= api.MaxCorn }

// CheckPass returns OK for a valid pass, and otherwise ErrPass.
func CheckPass(p api.Pass) api.Errno {
	ends := isEnd(p.From) && isEnd(p.To) && p.From != p.To
	cert := p.Cert == 0 || isSource(p.Cert) && p.From == 0
	if noteOfPass(p).valid() && ends && cert && isDay(p.Day) && areGallons(p.Gallons) {
		return api.OK
	}
	return api.ErrPass
}

// CheckHoard returns OK for a valid hoard, and otherwise ErrHoard.
func CheckHoard(h api.Hoard) api.Errno {
	if noteOfHoard(h).valid() && isFamily(h.Family) && isDay(h.Day) && areGallons(h.Gallons) {
		return api.OK
	}
	return api.ErrHoard
}

// Check returns OK for valid sacks, and otherwise ErrSacks.
func Check(s api.Sacks) api.Errno {
	if len(s.Passes) > api.MaxPasses || len(s.Hoards) > api.MaxPasses {
		return api.ErrSacks
	}
	last := 0
	for _, p := range s.Passes {
		if CheckPass(p) != api.OK || p.Source <= last {
			return api.ErrSacks
		}
		last = p.Source
	}
	last = 0
	for _, h := range s.Hoards {
		if CheckHoard(h) != api.OK || h.Source <= last {
			return api.ErrSacks
		}
		last = h.Source
	}
	return api.OK
}

// checkDays returns ErrSacks or ErrDay, or OK if sacks are valid and some numbers are days.
func checkDays(s api.Sacks, days ...int) api.Errno {
	if e := Check(s); e != api.OK {
		return e
	}
	for _, day := range days {
		if !isDay(day) {
			return api.ErrDay
		}
	}
	return api.OK
}

// checkSpot returns ErrSacks, ErrSpot or ErrDay, or OK.
func checkSpot(s api.Sacks, spot api.Spot, known int) api.Errno {
	if e := Check(s); e != api.OK {
		return e
	}
	if !isFamily(spot.Family) || !isDay(spot.Day) {
		return api.ErrSpot
	}
	return checkDays(s, known)
}

// checkCert returns ErrSacks, ErrArg or ErrDay, or OK.
func checkCert(s api.Sacks, cert int, days ...int) api.Errno {
	if e := Check(s); e != api.OK {
		return e
	}
	if !isSource(cert) {
		return api.ErrArg
	}
	return checkDays(s, days...)
}
