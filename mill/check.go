package mill

import "leazing/api"

const maxHours = 1<<api.MaxTurns - 1 // of a comer: the bits of all hours

func within(n, lo, hi int) bool { return lo <= n && n <= hi }

// isRange reports whether a range is one of numbers from 0 to a greatest one.
func isRange(r api.Range, most int) bool { return r.Lo >= 0 && r.Lo <= r.Hi && r.Hi <= most }

// CheckYield returns OK for a valid yield, and otherwise ErrYield.
func CheckYield(y api.Yield) api.Errno {
	if isRange(y.Gallons, api.MaxYielded) && within(y.Toll, api.MinToll, api.MaxToll) {
		return api.OK
	}
	return api.ErrYield
}

// CheckComer returns OK for a valid comer, and otherwise ErrComer.
func CheckComer(c api.Comer) api.Errno {
	if within(c.Family, 1, api.MaxFamily) && within(c.Hours, 0, maxHours) && within(c.Wants, 0, api.MaxTurns) {
		return api.OK
	}
	return api.ErrComer
}

// Check returns OK for a valid mill, and otherwise ErrMill.
func Check(m api.Mill) api.Errno {
	if !within(m.Hours, 0, api.MaxTurns) || len(m.Comers) > api.MaxComers {
		return api.ErrMill
	}
	for i, c := range m.Comers {
		if !isNew(api.Mill{Hours: m.Hours, Comers: m.Comers[:i]}, c) {
			return api.ErrMill
		}
	}
	return api.OK
}

// isNew reports whether a comer is valid, can come only at hours that a mill has, and is of a family that does not come yet.
func isNew(m api.Mill, c api.Comer) bool {
	return CheckComer(c) == api.OK && c.Hours>>m.Hours == 0 && indexOf(m, c.Family) == nobody
}
