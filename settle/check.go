package settle

import "leazing/api"

// Stand for a person and a parish where none is asked for.
const (
	anybody  = 1
	anywhere = 0
)

func isDay(day int) bool { return day >= 0 && day <= api.MaxDay }

func isPerson(person int) bool { return person >= 1 && person <= api.MaxPerson }

func isParish(parish int) bool { return parish >= 0 && parish < api.MaxParishes }

// lasts reports whether proofs of a kind have a last day.
func lasts(kind int) bool {
	return kind == api.PfService || kind == api.PfRent || kind == api.PfBound
}

// CheckProof returns OK for a valid proof, and otherwise ErrProof.
func CheckProof(p api.Proof) api.Errno {
	source := p.Source >= 1 && p.Source <= api.MaxSource
	kind := p.Kind >= api.PfBirth && p.Kind <= api.PfExamined
	if source && kind && hasPersons(p) && hasPlace(p) && hasDays(p) && hasTimes(p) {
		return api.OK
	}
	return api.ErrProof
}

func hasPersons(p api.Proof) bool {
	if len(p.Persons) < 1 || len(p.Persons) > api.MaxNamed {
		return false
	}
	last := 0
	for _, person := range p.Persons {
		if !isPerson(person) || person <= last {
			return false
		}
		last = person
	}
	return true
}

// hasPlace reports whether a marriage has the other person and no parish, and another proof a parish and no other person.
func hasPlace(p api.Proof) bool {
	if p.Kind == api.PfMarried {
		return isPerson(p.Other) && p.Parish == 0
	}
	return p.Other == 0 && isParish(p.Parish)
}

func hasDays(p api.Proof) bool {
	if lasts(p.Kind) {
		return isDay(p.Day) && p.Through >= p.Day && isDay(p.Through)
	}
	return isDay(p.Day) && p.Through == 0
}

func hasTimes(p api.Proof) bool {
	return isDay(p.Known) && (p.Until == 0 || p.Until > p.Known && isDay(p.Until))
}

// Check returns OK for valid proofs, and otherwise ErrProofs.
func Check(l []api.Proof) api.Errno {
	if len(l) > api.MaxProofs {
		return api.ErrProofs
	}
	last, readings := 0, 1
	for _, p := range l {
		if CheckProof(p) != api.OK || p.Source <= last {
			return api.ErrProofs
		}
		last = p.Source
		readings *= len(p.Persons)
		if readings > api.MaxReadings {
			return api.ErrProofs
		}
	}
	return api.OK
}

// checkAsked returns the first error of proofs and of what is asked of them.
func checkAsked(l []api.Proof, person, parish int, days ...int) api.Errno {
	if e := Check(l); e != api.OK {
		return e
	}
	if !isPerson(person) {
		return api.ErrWho
	}
	if !isParish(parish) {
		return api.ErrWhere
	}
	for _, day := range days {
		if !isDay(day) {
			return api.ErrDay
		}
	}
	return api.OK
}
