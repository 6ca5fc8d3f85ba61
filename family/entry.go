package family

import "leazing/api"

// Kinds of entries.
const (
	kindStay = iota
	kindBond
	kindAway
	kindOffence
	kinds
)

// entry is a stay, a bond, an away or an offence.
type entry interface {
	valid() bool
	note() note
	// line returns the word and the numbers of its line in a text.
	line() (string, []int)
}

type (
	stay    api.Stay
	bond    api.Bond
	away    api.Away
	offence api.Offence
)

// note is what entries of all kinds have in common.
type note struct {
	source int
	of, to int // the person of a stay, and the family; the family of a bond, and With; the person of an away, and By; the person of an offence
	span
	known, until int
}

// span says between which bounds a term begins, and ends.
type span struct{ from, till api.Range }

func (s stay) note() note {
	return note{s.Source, s.Person, s.Family, span{s.From, s.Till}, s.Known, s.Until}
}

func (b bond) note() note {
	return note{b.Source, b.Family, b.With, span{b.From, b.Till}, b.Known, b.Until}
}

func (a away) note() note {
	return note{a.Source, a.Person, a.By, span{a.From, a.Till}, a.Known, a.Until}
}

// note has the day that the offence costs as its span.
func (o offence) note() note {
	return note{o.Source, o.Person, 0, span{single(o.Day + 1), single(o.Day + 2)}, o.Known, o.Until}
}

func (s stay) line() (string, []int) { return "stay", s.note().numbers() }

func (b bond) line() (string, []int) { return "bond", b.note().numbers() }

func (a away) line() (string, []int) { return "away", a.note().numbers() }

func (o offence) line() (string, []int) {
	return "offence", []int{o.Source, o.Person, o.Day, o.Known, o.Until}
}

func (n note) numbers() []int {
	return []int{n.source, n.of, n.to, n.from.Lo, n.from.Hi, n.till.Lo, n.till.Hi, n.known, n.until}
}

// counts reports whether what has the note counts, as known on a day.
func (n note) counts(known int) bool {
	return n.known <= known && (n.until == 0 || n.until > known)
}

func single(n int) api.Range { return api.Range{Lo: n, Hi: n} }

// may reports whether some term within the span has a day.
func (s span) may(day int) bool { return has(s.wide(), day) }

// surely reports whether all terms within the span have a day.
func (s span) surely(day int) bool { return has(s.narrow(), day) }

// wide returns the term that has all days that any one within the span has.
func (s span) wide() api.Term { return api.Term{Begin: s.from.Lo, End: s.till.Hi} }

// narrow returns the term that has just the days that all of them have.
func (s span) narrow() api.Term { return api.Term{Begin: s.from.Hi, End: s.till.Lo} }

func (s span) contains(t api.Term) bool {
	return inRange(t.Begin, s.from) && inRange(t.End, s.till)
}

func has(t api.Term, day int) bool { return t.Begin <= day && day < t.End }

func inRange(n int, r api.Range) bool { return n >= r.Lo && n <= r.Hi }

// entries returns the entries of a kin, a list for each kind.
func entries(k api.Kin) [kinds][]entry {
	return [kinds][]entry{
		kindStay:    listOf(k.Stays, func(s api.Stay) entry { return stay(s) }),
		kindBond:    listOf(k.Bonds, func(b api.Bond) entry { return bond(b) }),
		kindAway:    listOf(k.Aways, func(a api.Away) entry { return away(a) }),
		kindOffence: listOf(k.Offences, func(o api.Offence) entry { return offence(o) }),
	}
}

func listOf[T any](list []T, entryOf func(T) entry) []entry {
	all := make([]entry, 0, len(list))
	for _, x := range list {
		all = append(all, entryOf(x))
	}
	return all
}
