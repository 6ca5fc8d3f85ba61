package queen

import (
	"cmp"

	"leazing/api"
	"leazing/book"
	"leazing/settle"
)

// verdict returns OK if something is right, and otherwise an error.
func verdict(right bool, wrong api.Errno) api.Errno {
	if right {
		return api.OK
	}
	return wrong
}

// firstOf returns the first error of some results, or OK.
func firstOf(results ...api.Errno) api.Errno { return cmp.Or(results...) }

// Plot returns what the records of a book say of a field; ErrBook or ErrArg.
func Plot(b api.Book, field int) (api.Plot, api.Errno) {
	if e := firstOf(book.Check(b), verdict(isField(field), api.ErrArg)); e != api.OK {
		return api.Plot{}, e
	}
	return api.Plot{
		Loads:  said(entriesAt(b, api.RecLoad, field), entry.load),
		Stands: said(entriesAt(b, api.RecStand, field), entry.stand),
		Spells: said(entriesAt(b, api.RecSpell, field), entry.spell),
	}, api.OK
}

// Proofs returns the proofs that they say, as known on a day: those that count, as far as each can be added to those before it; ErrBook or ErrDay.
func Proofs(b api.Book, known int) ([]api.Proof, api.Errno) {
	if e := firstOf(book.Check(b), verdict(within(known, 0, api.MaxDay), api.ErrDay)); e != api.OK {
		return nil, e
	}
	var proofs []api.Proof
	for _, p := range said(entries(b, api.RecProof), entry.proof) {
		if p.Known > known || p.Until != 0 && p.Until <= known {
			continue
		}
		if more, e := settle.Add(proofs, p); e == api.OK {
			proofs = more
		}
	}
	return proofs, api.OK
}

// Kin returns what they say of families; ErrBook.
func Kin(b api.Book) (api.Kin, api.Errno) {
	if e := book.Check(b); e != api.OK {
		return api.Kin{}, e
	}
	return api.Kin{
		Stays:    said(entries(b, api.RecStay), entry.stay),
		Bonds:    said(entries(b, api.RecBond), entry.bond),
		Aways:    said(entries(b, api.RecAway), entry.away),
		Offences: said(entries(b, api.RecOffence), entry.offence),
	}, api.OK
}

// Sacks returns what they say of corn; ErrBook.
func Sacks(b api.Book) (api.Sacks, api.Errno) {
	if e := book.Check(b); e != api.OK {
		return api.Sacks{}, e
	}
	return api.Sacks{
		Passes: said(entries(b, api.RecPass), entry.pass),
		Hoards: said(entries(b, api.RecHoard), entry.hoard),
	}, api.OK
}

// Relief returns what they say of bread; ErrBook.
func Relief(b api.Book) (api.Relief, api.Errno) {
	if e := book.Check(b); e != api.OK {
		return api.Relief{}, e
	}
	return api.Relief{
		Needs:    said(entries(b, api.RecNeed), entry.need),
		Crops:    said(entries(b, api.RecCrop), entry.crop),
		Findings: said(entries(b, api.RecFinding), entry.finding),
		Mades:    said(entries(b, api.RecMade), entry.made),
	}, api.OK
}
