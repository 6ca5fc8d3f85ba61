package queen

import (
	"iter"
	"slices"
	"strings"

	"leazing/api"
	"leazing/family"
	"leazing/relief"
	"leazing/sack"
	"leazing/settle"
	"leazing/sheaf"
)

const (
	commandsFrom = api.CmdLoad - api.RecLoad // the kind of the command that notes a record is this much greater than its kind
	beforeText   = 3                         // numbers of such a command that are before those of the Text
	maxDigits    = 9                         // of a number in a Text
	sources      = 10000                     // of a parish
)

// entry is a record that is read: the source of what it says, until when that counts, and the numbers of its Text.
type entry struct {
	api.Record
	source, until int
	numbers       []int
}

// sourceOf returns the source of what a record says.
func sourceOf(at api.Item) int { return sources*at.Parish + at.No + 1 }

// entries yields the records of a kind in a book, as far as their Texts have the numbers of the kind.
func entries(b api.Book, kind int) iter.Seq[entry] {
	return func(yield func(entry) bool) {
		for _, r := range b.Records {
			if r.Kind != kind {
				continue
			}
			numbers, right := textNumbers(r)
			if right && !yield(entry{r, sourceOf(r.At), untilOf(b, r.At), numbers}) {
				return
			}
		}
	}
}

// entriesAt yields those of them whose first number is a field.
func entriesAt(b api.Book, kind, field int) iter.Seq[entry] {
	return func(yield func(entry) bool) {
		for e := range entries(b, kind) {
			if e.numbers[0] == field && !yield(e) {
				return
			}
		}
	}
}

// textNumbers returns the numbers of a record's Text; false if it has not those of its kind.
func textNumbers(r api.Record) ([]int, bool) {
	words := strings.Split(r.Text, " ")
	f, _ := formOf(r.Kind + commandsFrom)
	strange := func(word string) bool { return len(word) > maxDigits || strings.HasPrefix(word, "-") }
	if len(words) != f.count()-beforeText || slices.ContainsFunc(words, strange) {
		return nil, false
	}
	return numbersOf(words)
}

// untilOf returns when the first record is known that withdraws another one; 0 if there is none.
func untilOf(b api.Book, at api.Item) int {
	r, _ := find(b.Records, func(r api.Record) bool { return withdraws(r, at) })
	return r.Known
}

// withdraws reports whether a record withdraws the one that has an item.
func withdraws(r api.Record, at api.Item) bool { return r.Kind == api.RecWithdraw && r.Of == at }

// said returns what entries say, as far as it is valid.
func said[T any](entries iter.Seq[entry], say func(entry) (T, api.Errno)) []T {
	var all []T
	for e := range entries {
		if x, wrong := say(e); wrong == api.OK {
			all = append(all, x)
		}
	}
	return all
}

// check returns the error of what an entry of one of the kinds says.
func (e entry) check() api.Errno {
	switch e.Kind {
	case api.RecLoad:
		return errorOf(e.load())
	case api.RecStand:
		return errorOf(e.stand())
	case api.RecSpell:
		return errorOf(e.spell())
	case api.RecProof:
		return errorOf(e.proof())
	case api.RecStay:
		return errorOf(e.stay())
	case api.RecBond:
		return errorOf(e.bond())
	case api.RecAway:
		return errorOf(e.away())
	case api.RecOffence:
		return errorOf(e.offence())
	case api.RecPass:
		return errorOf(e.pass())
	case api.RecHoard:
		return errorOf(e.hoard())
	case api.RecNeed:
		return errorOf(e.need())
	case api.RecCrop:
		return errorOf(e.crop())
	case api.RecFinding:
		return errorOf(e.finding())
	}
	return errorOf(e.made())
}

func errorOf[T any](_ T, e api.Errno) api.Errno { return e }

// span returns the range that two of an entry's numbers are, from an index on.
func (e entry) span(i int) api.Range { return api.Range{Lo: e.numbers[i], Hi: e.numbers[i+1]} }

func isField(n int) bool { return within(n, 1, api.MaxField) }

// checkField returns ErrArg if an entry has no field as its first number.
func (e entry) checkField() api.Errno { return verdict(isField(e.numbers[0]), api.ErrArg) }

// Each of the next methods returns what an entry of a kind says, and what is wrong with that.

func (e entry) load() (api.Load, api.Errno) {
	l := api.Load{Source: e.source, Hour: e.numbers[1], Sheaves: e.span(2), Known: e.Known, Until: e.until}
	return l, firstOf(e.checkField(), sheaf.CheckLoad(l))
}

func (e entry) stand() (api.Stand, api.Errno) {
	s := api.Stand{Source: e.source, Hour: e.numbers[1], Sheaves: e.span(2), Known: e.Known, Until: e.until}
	return s, firstOf(e.checkField(), sheaf.CheckStand(s))
}

func (e entry) spell() (api.Spell, api.Errno) {
	n := e.numbers
	s := api.Spell{Source: e.source, Kind: n[1], From: n[2], To: n[3], Known: e.Known, Until: e.until}
	return s, firstOf(e.checkField(), sheaf.CheckSpell(s))
}

func (e entry) proof() (api.Proof, api.Errno) {
	n := e.numbers
	persons := n[1:4]
	for len(persons) > 0 && persons[0] == 0 {
		persons = persons[1:]
	}
	p := api.Proof{
		Source: e.source, Kind: n[0], Persons: persons, Other: n[4],
		Parish: n[5], Day: e.Day, Through: n[6], Known: e.Known, Until: e.until,
	}
	return p, firstOf(verdict(!slices.Contains(persons, 0), api.ErrArg), settle.CheckProof(p))
}

func (e entry) stay() (api.Stay, api.Errno) {
	n := e.numbers
	s := api.Stay{Source: e.source, Person: n[0], Family: n[1], From: e.span(2), Till: e.span(4), Known: e.Known, Until: e.until}
	return s, family.CheckStay(s)
}

func (e entry) bond() (api.Bond, api.Errno) {
	n := e.numbers
	b := api.Bond{Source: e.source, Family: n[0], With: n[1], From: e.span(2), Till: e.span(4), Known: e.Known, Until: e.until}
	return b, family.CheckBond(b)
}

func (e entry) away() (api.Away, api.Errno) {
	n := e.numbers
	a := api.Away{Source: e.source, Person: n[0], By: n[1], From: e.span(2), Till: e.span(4), Known: e.Known, Until: e.until}
	return a, family.CheckAway(a)
}

func (e entry) offence() (api.Offence, api.Errno) {
	o := api.Offence{Source: e.source, Person: e.numbers[0], Day: e.Day, Known: e.Known, Until: e.until}
	return o, family.CheckOffence(o)
}

func (e entry) pass() (api.Pass, api.Errno) {
	n := e.numbers
	p := api.Pass{
		Source: e.source, From: n[0], To: n[1], Day: e.Day, Gallons: e.span(2),
		Cert: n[4], Known: e.Known, Until: e.until,
	}
	return p, sack.CheckPass(p)
}

func (e entry) hoard() (api.Hoard, api.Errno) {
	h := api.Hoard{Source: e.source, Family: e.numbers[0], Day: e.Day, Gallons: e.span(1), Known: e.Known, Until: e.until}
	return h, sack.CheckHoard(h)
}

func (e entry) need() (api.Need, api.Errno) {
	n := e.numbers
	need := api.Need{Source: e.source, Family: n[0], Week: n[1], Heads: n[2], Known: e.Known, Until: e.until}
	return need, relief.CheckNeed(need)
}

func (e entry) crop() (api.Crop, api.Errno) {
	n := e.numbers
	c := api.Crop{Source: e.source, Family: n[0], Week: n[1], Gallons: e.span(2), Known: e.Known, Until: e.until}
	return c, relief.CheckCrop(c)
}

func (e entry) finding() (api.Finding, api.Errno) {
	n := e.numbers
	f := api.Finding{Source: e.source, Family: n[0], From: n[1], To: n[2], Known: e.Known, Until: e.until}
	return f, relief.CheckFinding(f)
}

func (e entry) made() (api.Made, api.Errno) {
	m := api.Made{Source: e.source, Family: e.numbers[0], Gallons: e.numbers[1], Known: e.Known, Until: e.until}
	return m, relief.CheckMade(m)
}
