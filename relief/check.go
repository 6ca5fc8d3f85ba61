package relief

import (
	"cmp"

	"leazing/api"
)

func within(n, lo, hi int) bool { return lo <= n && n <= hi }

func isDay(n int) bool { return within(n, 0, api.MaxDay) }

func isWeek(n int) bool { return within(n, 0, api.MaxWeek) }

func isFamily(n int) bool { return within(n, 1, api.MaxFamily) }

func (n note) valid() bool {
	ends := n.until == 0 || n.until > n.known && isDay(n.until)
	return within(n.source, 1, api.MaxSource) && isFamily(n.family) && isDay(n.known) && ends
}

func (n need) valid() bool {
	return n.note().valid() && isWeek(n.Week) && within(n.Heads, 0, api.MaxMouths)
}

func (c crop) valid() bool {
	g := c.Gallons
	return c.note().valid() && isWeek(c.Week) && g.Lo >= 0 && g.Lo <= g.Hi && g.Hi <= api.MaxGallons
}

func (f finding) valid() bool {
	return f.note().valid() && isWeek(f.From) && isWeek(f.To) && f.From <= f.To
}

func (m made) valid() bool {
	return m.note().valid() && within(m.Gallons, 1, api.MaxGallons)
}

// CheckScale returns OK for a valid scale, and otherwise ErrScale.
func CheckScale(s api.Scale) api.Errno {
	return verdict(isWeek(s.From) && within(s.Bread, 0, api.MaxBread), api.ErrScale)
}

// CheckNeed returns OK for a valid need, and otherwise ErrNeed.
func CheckNeed(n api.Need) api.Errno { return verdict(need(n).valid(), api.ErrNeed) }

// CheckCrop returns OK for a valid crop, and otherwise ErrCrop.
func CheckCrop(c api.Crop) api.Errno { return verdict(crop(c).valid(), api.ErrCrop) }

// CheckFinding returns OK for a valid finding, and otherwise ErrFinding.
func CheckFinding(f api.Finding) api.Errno { return verdict(finding(f).valid(), api.ErrFinding) }

// CheckMade returns OK for what was made good, if it is valid, and otherwise ErrMade.
func CheckMade(m api.Made) api.Errno { return verdict(made(m).valid(), api.ErrMade) }

// Check returns OK for a valid relief, and otherwise ErrRelief.
func Check(r api.Relief) api.Errno {
	lists := areValid(r.Scales, api.MaxScales, CheckScale, func(s api.Scale) int { return s.From }) &&
		areValid(r.Needs, api.MaxEntries, CheckNeed, func(n api.Need) int { return n.Source }) &&
		areValid(r.Crops, api.MaxEntries, CheckCrop, func(c api.Crop) int { return c.Source }) &&
		areValid(r.Findings, api.MaxEntries, CheckFinding, func(f api.Finding) int { return f.Source }) &&
		areValid(r.Mades, api.MaxEntries, CheckMade, func(m api.Made) int { return m.Source })
	return verdict(lists && !sharesSource(r), api.ErrRelief)
}

// areValid reports whether a list has at most so many elements, all of them valid, and each after the one before it.
func areValid[T any](list []T, most int, check func(T) api.Errno, place func(T) int) bool {
	if len(list) > most {
		return false
	}
	last := -1
	for _, x := range list {
		if check(x) != api.OK || place(x) <= last {
			return false
		}
		last = place(x)
	}
	return true
}

// sharesSource reports whether two entries have one source.
func sharesSource(r api.Relief) bool {
	var sources []int
	for e := range entries(r) {
		sources = append(sources, e.note().source)
	}
	many := len(sources)
	return len(rising(sources)) < many
}

// verdict returns OK if something is right, and otherwise an error.
func verdict(right bool, wrong api.Errno) api.Errno {
	if right {
		return api.OK
	}
	return wrong
}

func checkFamily(family int) api.Errno { return verdict(isFamily(family), api.ErrArg) }

func checkWeek(week int) api.Errno { return verdict(isWeek(week), api.ErrWeek) }

func checkDay(day int) api.Errno { return verdict(isDay(day), api.ErrDay) }

// checkDays returns OK for days of postings, and otherwise ErrDay.
func checkDays(days []int) api.Errno {
	return verdict(areValid(days, api.MaxDays, checkDay, func(day int) int { return day }), api.ErrDay)
}

// checkAsked returns ErrRelief, ErrArg or ErrDay, or OK.
func checkAsked(r api.Relief, family, known int) api.Errno {
	return firstOf(Check(r), checkFamily(family), checkDay(known))
}

// checkInWeek returns ErrRelief, ErrArg, ErrWeek or ErrDay, or OK.
func checkInWeek(r api.Relief, family, week, known int) api.Errno {
	return firstOf(Check(r), checkFamily(family), checkWeek(week), checkDay(known))
}

// firstOf returns the first error of some results, or OK.
func firstOf(results ...api.Errno) api.Errno { return cmp.Or(results...) }
