package relief

import (
	"slices"

	"leazing/api"
)

// Found returns a relief with one more finding, at its place by Sources; ErrRelief, ErrFinding or ErrLong.
func Found(r api.Relief, f api.Finding) (api.Relief, api.Errno) {
	if e := Check(r); e != api.OK {
		return api.Relief{}, e
	}
	if _, has := noteOf(r, f.Source); has || CheckFinding(f) != api.OK {
		return api.Relief{}, api.ErrFinding
	}
	if len(r.Findings) == api.MaxEntries {
		return api.Relief{}, api.ErrLong
	}
	more := filtered(r, all)
	place := 0
	for place < len(more.Findings) && more.Findings[place].Source < f.Source {
		place++
	}
	more.Findings = slices.Insert(more.Findings, place, f)
	return more, api.OK
}

// Families returns the families that entries that count name, rising; ErrRelief or ErrDay.
func Families(r api.Relief, known int) ([]int, api.Errno) {
	if e := firstOf(Check(r), checkDay(known)); e != api.OK {
		return nil, e
	}
	return familiesOf(r, func(n note) bool { return n.counts(known) }), api.OK
}

// Dates returns the days on which something becomes known, or ends, rising, each once; ErrRelief.
func Dates(r api.Relief) ([]int, api.Errno) {
	if e := Check(r); e != api.OK {
		return nil, e
	}
	var dates []int
	for e := range entries(r) {
		n := e.note()
		dates = append(dates, n.known)
		if n.until != 0 {
			dates = append(dates, n.until)
		}
	}
	return rising(dates), api.OK
}
