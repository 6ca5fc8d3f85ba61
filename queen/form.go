package queen

import (
	"slices"
	"strings"

	"leazing/api"
)

// form is a kind of commands, and how their lines are written: a word, and what its numbers are.
type form struct {
	kind int
	line string
}

func (f form) words() []string { return strings.Fields(f.line) }

// count returns how many numbers there are.
func (f form) count() int { return len(f.words()) - 1 }

// ofParish reports whether the first number is a parish.
func (f form) ofParish() bool { return f.count() > 0 && f.words()[1] == "PARISH" }

// formOf returns the form of a kind; false if there is none.
func formOf(kind int) (form, bool) {
	return find(forms(), func(f form) bool { return f.kind == kind })
}

// formNamed returns the form that has a word; false if there is none.
func formNamed(word string) (form, bool) {
	return find(forms(), func(f form) bool { return f.words()[0] == word })
}

// find returns the first element of a list that is as asked for; false if there is none.
func find[T any](list []T, is func(T) bool) (T, bool) {
	i := slices.IndexFunc(list, is)
	if i < 0 {
		var none T
		return none, false
	}
	return list[i], true
}

// forms returns those of all commands.
func forms() []form {
	return slices.Concat(settingForms(), recordForms(), letterForms(), bellForms(), queryForms())
}

func settingForms() []form {
	return []form{
		{api.CmdField, "field FIELD LO HI GEESE"},
		{api.CmdChain, "chain ID LO HI"},
		{api.CmdCell, "cell CHAIN LINKS WORTH"},
		{api.CmdClaim, "claim FAMILY HEADS FROM TO"},
		{api.CmdYield, "yield LO HI TOLL"},
		{api.CmdMill, "mill HOURS"},
		{api.CmdComer, "comer FAMILY HOURS WANTS"},
		{api.CmdScale, "scale FROM BREAD"},
		{api.CmdBlank, "blank"},
	}
}

func recordForms() []form {
	return []form{
		{api.CmdLoad, "load PARISH DAY KNOWN FIELD HOUR LO HI"},
		{api.CmdStand, "stand PARISH DAY KNOWN FIELD HOUR LO HI"},
		{api.CmdSpell, "spell PARISH DAY KNOWN FIELD KIND FROM TO"},
		{api.CmdProof, "proof PARISH DAY KNOWN KIND PERSON PERSON PERSON OTHER PARISH THROUGH"},
		{api.CmdStay, "stay PARISH DAY KNOWN PERSON FAMILY LO HI LO HI"},
		{api.CmdBond, "bond PARISH DAY KNOWN FAMILY WITH LO HI LO HI"},
		{api.CmdAway, "away PARISH DAY KNOWN PERSON BY LO HI LO HI"},
		{api.CmdOffence, "offence PARISH DAY KNOWN PERSON"},
		{api.CmdPass, "pass PARISH DAY KNOWN FROM TO LO HI CERT"},
		{api.CmdHoard, "hoard PARISH DAY KNOWN FAMILY LO HI"},
		{api.CmdNeed, "need PARISH DAY KNOWN FAMILY WEEK HEADS"},
		{api.CmdCrop, "crop PARISH DAY KNOWN FAMILY WEEK LO HI"},
		{api.CmdFinding, "finding PARISH DAY KNOWN FAMILY FROM TO"},
		{api.CmdMade, "made PARISH DAY KNOWN FAMILY GALLONS"},
		{api.CmdWithdraw, "withdraw PARISH KNOWN NO"},
	}
}

func letterForms() []form {
	return []form{
		{api.CmdSend, "send PARISH TO ABOUT"},
		{api.CmdDeliver, "deliver N"},
		{api.CmdLose, "lose N"},
		{api.CmdDouble, "double N"},
		{api.CmdTorn, "torn PARISH N N N N N N"},
	}
}

func bellForms() []form {
	return []form{
		{api.CmdWant, "want PARISH FIELD"},
		{api.CmdRing, "ring PARISH FIELD"},
		{api.CmdShut, "shut PARISH FIELD"},
		{api.CmdServe, "serve PARISH"},
		{api.CmdBind, "bind PARISH"},
		{api.CmdTear, "tear PARISH N"},
		{api.CmdRecopy, "recopy PARISH"},
		{api.CmdTell, "tell PARISH TO"},
		{api.CmdHear, "hear N"},
		{api.CmdMiss, "miss N"},
		{api.CmdAgain, "again N"},
	}
}

func queryForms() []form {
	return []form{
		{api.CmdOpen, "open PARISH FIELD HOUR KNOWN"},
		{api.CmdClear, "clear PARISH FIELD HOUR KNOWN"},
		{api.CmdStood, "stood PARISH FIELD HOUR KNOWN"},
		{api.CmdFirst, "first PARISH FIELD KNOWN"},
		{api.CmdMisled, "misled PARISH FIELD KNOWN"},
		{api.CmdSettled, "settled PARISH PERSON DAY KNOWN"},
		{api.CmdRight, "right PARISH PERSON WHERE DAY KNOWN"},
		{api.CmdBelong, "belong PARISH WHERE DAY KNOWN"},
		{api.CmdReadings, "readings PARISH KNOWN"},
		{api.CmdRests, "rests PARISH PERSON WHERE DAY KNOWN"},
		{api.CmdFamilies, "families PARISH PERSON DAY KNOWN"},
		{api.CmdSure, "sure PARISH FAMILY DAY KNOWN"},
		{api.CmdMay, "may PARISH FAMILY DAY KNOWN"},
		{api.CmdHeads, "heads PARISH FAMILY DAY KNOWN"},
		{api.CmdShare, "share DAY"},
		{api.CmdCrowded, "crowded"},
		{api.CmdLength, "length FROM TO"},
		{api.CmdGrind, "grind"},
		{api.CmdHours, "hours"},
		{api.CmdLevel, "level"},
		{api.CmdFlour, "flour LO HI"},
		{api.CmdHave, "have PARISH FAMILY DAY KNOWN"},
		{api.CmdWent, "went PARISH SOURCE KNOWN"},
		{api.CmdTotal, "total PARISH DAY KNOWN"},
		{api.CmdCert, "cert PARISH CERT KNOWN"},
		{api.CmdFence, "fence PARISH KNOWN"},
		{api.CmdClash, "clash PARISH KNOWN"},
		{api.CmdBread, "bread PARISH FAMILY WEEK KNOWN"},
		{api.CmdAccount, "account PARISH FAMILY KNOWN"},
		{api.CmdWho, "who FIELD"},
		{api.CmdMissing, "missing PARISH FIELD"},
		{api.CmdRecords, "records"},
	}
}
