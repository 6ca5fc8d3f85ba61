package family

import "leazing/api"

// Stand for a person and a family where none is asked for.
const (
	anybody   = 1
	anyFamily = 1
)

func isDay(day int) bool { return day >= 0 && day <= api.MaxDay }

func isPerson(person int) bool { return person >= 1 && person <= api.MaxPerson }

func isFamily(family int) bool { return family >= 1 && family <= api.MaxFamily }

func (s stay) valid() bool {
	return isPerson(s.Person) && isFamily(s.Family) && s.note().valid()
}

func (b bond) valid() bool {
	return isFamily(b.Family) && b.With >= 1 && b.With < b.Family && b.note().valid()
}

func (a away) valid() bool {
	by := a.By == 0 || isPerson(a.By) && a.By != a.Person
	return isPerson(a.Person) && by && a.note().valid()
}

func (o offence) valid() bool {
	return isPerson(o.Person) && isDay(o.Day) && o.note().recorded()
}

func (n note) valid() bool { return n.recorded() && n.span.valid() }

// recorded reports whether the note has a source, and valid times.
func (n note) recorded() bool {
	ends := n.until == 0 || n.until > n.known && isDay(n.until)
	return n.source >= 1 && n.source <= api.MaxSource && isDay(n.known) && ends
}

func (s span) valid() bool {
	inOrder := s.from.Lo <= s.from.Hi && s.from.Hi <= s.till.Lo && s.till.Lo <= s.till.Hi
	return inOrder && s.from.Lo >= 0 && s.till.Hi <= api.MaxDay
}

// CheckStay returns OK for a valid stay, and otherwise ErrStay.
func CheckStay(s api.Stay) api.Errno { return checkEntry(stay(s), api.ErrStay) }

// CheckBond returns OK for a valid bond, and otherwise ErrBond.
func CheckBond(b api.Bond) api.Errno { return checkEntry(bond(b), api.ErrBond) }

// CheckAway returns OK for a valid away, and otherwise ErrAway.
func CheckAway(a api.Away) api.Errno { return checkEntry(away(a), api.ErrAway) }

// CheckOffence returns OK for a valid offence, and otherwise ErrOffence.
func CheckOffence(o api.Offence) api.Errno { return checkEntry(offence(o), api.ErrOffence) }

func checkEntry(e entry, wrong api.Errno) api.Errno {
	if e.valid() {
		return api.OK
	}
	return wrong
}

// Check returns OK for a valid kin, and otherwise ErrKin.
func Check(k api.Kin) api.Errno {
	if max(len(k.Stays), len(k.Bonds), len(k.Aways), len(k.Offences)) > api.MaxStays {
		return api.ErrKin
	}
	for _, list := range entries(k) {
		if !areValid(list) {
			return api.ErrKin
		}
	}
	return api.OK
}

// areValid reports whether entries of one kind are valid, with rising sources.
func areValid(list []entry) bool {
	last := 0
	for _, e := range list {
		source := e.note().source
		if !e.valid() || source <= last {
			return false
		}
		last = source
	}
	return true
}

// checkAsked returns the first error of a kin and of what is asked of it.
func checkAsked(k api.Kin, person, family int, days ...int) api.Errno {
	if e := Check(k); e != api.OK {
		return e
	}
	if !isPerson(person) {
		return api.ErrPerson
	}
	if !isFamily(family) {
		return api.ErrFamily
	}
	for _, day := range days {
		if !isDay(day) {
			return api.ErrDay
		}
	}
	return api.OK
}
