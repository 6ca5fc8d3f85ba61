package relief

import "leazing/api"

// Wants returns what a family needs in a week; ErrRelief, ErrArg, ErrWeek or ErrDay.
func Wants(r api.Relief, family, week, known int) (int, api.Errno) {
	if e := checkInWeek(r, family, week, known); e != api.OK {
		return 0, e
	}
	return ledgerOf(r, family, known).wants(week), api.OK
}

// Bread returns the least and the greatest amount that a family is to be given in a week; ErrRelief, ErrArg, ErrWeek or ErrDay. The more it had, the less it is given.
func Bread(r api.Relief, family, week, known int) (api.Range, api.Errno) {
	if e := checkInWeek(r, family, week, known); e != api.OK {
		return api.Range{}, e
	}
	l := ledgerOf(r, family, known)
	least, _ := l.inWeek(week, l.most())
	greatest, _ := l.inWeek(week, l.least())
	return api.Range{Lo: least, Hi: greatest}, api.OK
}

// Carried returns the least and the greatest amount that is carried from a week to the next one; ErrRelief, ErrArg, ErrWeek or ErrDay.
func Carried(r api.Relief, family, week, known int) (api.Range, api.Errno) {
	if e := checkInWeek(r, family, week, known); e != api.OK {
		return api.Range{}, e
	}
	l := ledgerOf(r, family, known)
	_, least := l.inWeek(week, l.least())
	_, greatest := l.inWeek(week, l.most())
	return api.Range{Lo: least, Hi: greatest}, api.OK
}

// Counted returns the Sources of a family's crops that count for relief, rising; ErrRelief, ErrArg or ErrDay.
func Counted(r api.Relief, family, known int) ([]int, api.Errno) {
	if e := checkAsked(r, family, known); e != api.OK {
		return nil, e
	}
	var sources []int
	for _, c := range ledgerOf(r, family, known).counted {
		sources = append(sources, c.Source)
	}
	return sources, api.OK
}

// CheckCrops returns OK for true gallons of a family; otherwise ErrRelief, ErrArg, ErrDay or ErrCrops.
func CheckCrops(r api.Relief, family, known int, gallons []int) api.Errno {
	if e := checkAsked(r, family, known); e != api.OK {
		return e
	}
	return verdict(ledgerOf(r, family, known).areTrue(gallons), api.ErrCrops)
}

// Truly returns what a family is to be given in a week by true gallons; ErrRelief, ErrArg, ErrWeek, ErrDay or ErrCrops.
func Truly(r api.Relief, family, week, known int, gallons []int) (int, api.Errno) {
	if e := checkInWeek(r, family, week, known); e != api.OK {
		return 0, e
	}
	l := ledgerOf(r, family, known)
	if !l.areTrue(gallons) {
		return 0, api.ErrCrops
	}
	given, _ := l.inWeek(week, gallons)
	return given, api.OK
}

// Owed returns what a family owes; ErrRelief, ErrArg or ErrDay.
func Owed(r api.Relief, family, known int) (int, api.Errno) {
	if e := checkAsked(r, family, known); e != api.OK {
		return 0, e
	}
	return ledgerOf(r, family, known).owed(), api.OK
}

// Stands returns a family's account; ErrRelief, ErrArg or ErrDay.
func Stands(r api.Relief, family, known int) (api.Account, api.Errno) {
	if e := checkAsked(r, family, known); e != api.OK {
		return api.Account{}, e
	}
	return accountOf(r, family, known), api.OK
}
