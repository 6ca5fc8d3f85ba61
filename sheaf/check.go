package sheaf

import "leazing/api"

// note is what loads, stands and spells have in common.
type note struct{ source, known, until int }

func noteOfLoad(l api.Load) note   { return note{l.Source, l.Known, l.Until} }
func noteOfStand(s api.Stand) note { return note{s.Source, s.Known, s.Until} }
func noteOfSpell(s api.Spell) note { return note{s.Source, s.Known, s.Until} }

func (n note) valid() bool {
	ends := n.until == 0 || n.until > n.known && isDay(n.until)
	return n.source >= 1 && n.source <= api.MaxSource && isDay(n.known) && ends
}

// counts reports whether what has the note counts, as known on a day.
func (n note) counts(known int) bool {
	return n.known <= known && (n.until == 0 || n.until > known)
}

func isDay(day int) bool { return day >= 0 && day <= api.MaxDay }

func isHour(hour int) bool { return hour >= 0 && hour <= api.MaxHour }

func areSheaves(r api.Range) bool {
	return r.Lo >= 0 && r.Lo <= r.Hi && r.Hi <= api.MaxSheaves
}

// CheckLoad returns OK for a valid load, and otherwise ErrLoad.
func CheckLoad(l api.Load) api.Errno {
	if noteOfLoad(l).valid() && isHour(l.Hour) && areSheaves(l.Sheaves) {
		return api.OK
	}
	return api.ErrLoad
}

// CheckStand returns OK for a valid stand, and otherwise ErrStand.
func CheckStand(s api.Stand) api.Errno {
	if noteOfStand(s).valid() && isHour(s.Hour) && areSheaves(s.Sheaves) {
		return api.OK
	}
	return api.ErrStand
}

// CheckSpell returns OK for a valid spell, and otherwise ErrSpell.
func CheckSpell(s api.Spell) api.Errno {
	kind := s.Kind == api.SpGuard || s.Kind == api.SpRain
	if noteOfSpell(s).valid() && kind && isHour(s.From) && isHour(s.To) && s.From <= s.To {
		return api.OK
	}
	return api.ErrSpell
}

// Check returns OK for a valid plot, and otherwise ErrPlot.
func Check(p api.Plot) api.Errno {
	seen := map[int]bool{}
	valid := areSheaves(p.Sown) && p.Geese >= 0 && p.Geese <= api.MaxGeese &&
		checkList(p.Loads, CheckLoad, noteOfLoad, seen) &&
		checkList(p.Stands, CheckStand, noteOfStand, seen) &&
		checkList(p.Spells, CheckSpell, noteOfSpell, seen)
	if valid {
		return api.OK
	}
	return api.ErrPlot
}

// checkList reports whether a list is not too long and its elements are valid, with rising sources that were not seen before. It adds these to what was seen.
func checkList[T any](list []T, check func(T) api.Errno, noteOf func(T) note, seen map[int]bool) bool {
	if len(list) > api.MaxLoads {
		return false
	}
	last := 0
	for _, x := range list {
		source := noteOf(x).source
		if check(x) != api.OK || source <= last || seen[source] {
			return false
		}
		seen[source] = true
		last = source
	}
	return true
}

func checkDay(p api.Plot, known int) api.Errno {
	if e := Check(p); e != api.OK {
		return e
	}
	if !isDay(known) {
		return api.ErrDay
	}
	return api.OK
}

func checkHour(p api.Plot, hour, known int) api.Errno {
	if e := Check(p); e != api.OK {
		return e
	}
	if !isHour(hour) {
		return api.ErrHour
	}
	return checkDay(p, known)
}
