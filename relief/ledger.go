package relief

import (
	"slices"

	"leazing/api"
)

const weekDays = 7

// ledger is what a relief says of one family, as known on a day.
type ledger struct {
	scales  []api.Scale
	needs   []api.Need
	counted []api.Crop // those that count for relief
	covered []api.Crop // those that some finding covers
	mades   []api.Made
}

// ledgerOf returns the ledger of a family, as known on a day.
func ledgerOf(r api.Relief, family, known int) ledger {
	told := filtered(r, func(n note) bool { return n.family == family && n.counts(known) })
	l := ledger{scales: told.Scales, needs: told.Needs, mades: told.Mades}
	for _, c := range told.Crops {
		covers := func(f api.Finding) bool { return within(c.Week, f.From, f.To) }
		if slices.ContainsFunc(told.Findings, covers) {
			l.covered = append(l.covered, c)
		} else {
			l.counted = append(l.counted, c)
		}
	}
	return l
}

// wants returns what the family needs in a week.
func (l ledger) wants(week int) int {
	heads, bread := 0, 0
	for _, n := range l.needs {
		if n.Week == week {
			heads += n.Heads
		}
	}
	for _, s := range l.scales {
		if s.From <= week {
			bread = s.Bread
		}
	}
	return heads * bread
}

// gleaned returns what the family had from the fields in a week, by true gallons.
func (l ledger) gleaned(week int, gallons []int) int {
	total := 0
	for i, c := range l.counted {
		if c.Week == week {
			total += gallons[i]
		}
	}
	return total
}

// least returns the true gallons each of which is the least one.
func (l ledger) least() []int {
	var gallons []int
	for _, c := range l.counted {
		gallons = append(gallons, c.Gallons.Lo)
	}
	return gallons
}

// most returns those each of which is the greatest one.
func (l ledger) most() []int {
	var gallons []int
	for _, c := range l.counted {
		gallons = append(gallons, c.Gallons.Hi)
	}
	return gallons
}

// areTrue reports whether numbers are true gallons.
func (l ledger) areTrue(gallons []int) bool {
	if len(gallons) != len(l.counted) {
		return false
	}
	for i, c := range l.counted {
		if !within(gallons[i], c.Gallons.Lo, c.Gallons.Hi) {
			return false
		}
	}
	return true
}

// passing returns a function that passes one week after the other, from the week 0 on: it returns what the family is to be given in it by true gallons, and what is carried from it.
func (l ledger) passing(gallons []int) func() (given, carried int) {
	week, left := 0, 0
	return func() (given, carried int) {
		over := left + l.gleaned(week, gallons) - l.wants(week)
		week++
		left = max(over, 0)
		return max(-over, 0), left
	}
}

// inWeek returns what the family is to be given in a week by true gallons, and what is carried from it.
func (l ledger) inWeek(week int, gallons []int) (given, carried int) {
	pass := l.passing(gallons)
	for range week + 1 {
		given, carried = pass()
	}
	return given, carried
}

// owed returns what the family owes.
func (l ledger) owed() int {
	owed := 0
	for _, c := range l.covered {
		owed += c.Gallons.Lo
	}
	for _, m := range l.mades {
		owed -= m.Gallons
	}
	return max(owed, 0)
}

// accountOf returns the account of a family, as known on a day. The least gallons are those by which it is to be given the most in each week.
func accountOf(r api.Relief, family, known int) api.Account {
	l := ledgerOf(r, family, known)
	account := api.Account{Owed: l.owed()}
	pass := l.passing(l.least())
	for range known/weekDays + 1 {
		given, _ := pass()
		account.Bread += given
	}
	return account
}
