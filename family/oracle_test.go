package family_test

import (
	"math/rand"
	"slices"

	"leazing/api"
)

// This file finds who gleans for whom by trying all true terms, straight from the chapter's definitions, for few entries.

func counts(known, since, until int) bool { return since <= known && (until == 0 || known < until) }

// counting returns the kin without what does not count.
func counting(k api.Kin, known int) api.Kin {
	var some api.Kin
	for _, s := range k.Stays {
		if counts(known, s.Known, s.Until) {
			some.Stays = append(some.Stays, s)
		}
	}
	for _, b := range k.Bonds {
		if counts(known, b.Known, b.Until) {
			some.Bonds = append(some.Bonds, b)
		}
	}
	for _, a := range k.Aways {
		if counts(known, a.Known, a.Until) {
			some.Aways = append(some.Aways, a)
		}
	}
	for _, o := range k.Offences {
		if counts(known, o.Known, o.Until) {
			some.Offences = append(some.Offences, o)
		}
	}
	return some
}

// lessOne returns the kin without all that has a source.
func lessOne(k api.Kin, source int) api.Kin {
	k = cloned(k)
	k.Stays = slices.DeleteFunc(k.Stays, func(s api.Stay) bool { return s.Source == source })
	k.Bonds = slices.DeleteFunc(k.Bonds, func(b api.Bond) bool { return b.Source == source })
	k.Aways = slices.DeleteFunc(k.Aways, func(a api.Away) bool { return a.Source == source })
	k.Offences = slices.DeleteFunc(k.Offences, func(o api.Offence) bool { return o.Source == source })
	return k
}

func cloned(k api.Kin) api.Kin {
	return api.Kin{Stays: slices.Clone(k.Stays), Bonds: slices.Clone(k.Bonds), Aways: slices.Clone(k.Aways), Offences: slices.Clone(k.Offences)}
}

func sameKin(k, l api.Kin) bool {
	return slices.Equal(k.Stays, l.Stays) && slices.Equal(k.Bonds, l.Bonds) && slices.Equal(k.Aways, l.Aways) && slices.Equal(k.Offences, l.Offences)
}

// triedTerms returns all choices of a term within each span.
func triedTerms(spans [][2]api.Range) [][]api.Term {
	tried := [][]api.Term{nil}
	for _, s := range spans {
		var longer [][]api.Term
		for _, terms := range tried {
			for begin := s[0].Lo; begin <= s[0].Hi; begin++ {
				for end := s[1].Lo; end <= s[1].Hi; end++ {
					longer = append(longer, append(slices.Clone(terms), api.Term{Begin: begin, End: end}))
				}
			}
		}
		tried = longer
	}
	return tried
}

// spansOf returns the spans of stays, then of bonds, then of aways.
func spansOf(k api.Kin) [][2]api.Range {
	var spans [][2]api.Range
	for _, s := range k.Stays {
		spans = append(spans, [2]api.Range{s.From, s.Till})
	}
	for _, b := range k.Bonds {
		spans = append(spans, [2]api.Range{b.From, b.Till})
	}
	for _, a := range k.Aways {
		spans = append(spans, [2]api.Range{a.From, a.Till})
	}
	return spans
}

// timesOf parts terms of stays, bonds and aways.
func timesOf(k api.Kin, terms []api.Term) api.Times {
	n, m := len(k.Stays), len(k.Stays)+len(k.Bonds)
	return api.Times{Stays: terms[:n], Bonds: terms[n:m], Aways: terms[m:]}
}

// truths returns all true terms of a kin of which all counts.
func truths(k api.Kin) []api.Times {
	var all []api.Times
	for _, terms := range triedTerms(spansOf(k)) {
		all = append(all, timesOf(k, terms))
	}
	return all
}

// truth is a kin of which all counts, with true terms.
type truth struct {
	k api.Kin
	t api.Times
}

func within(term api.Term, day int) bool { return term.Begin <= day && term.End > day }

func (r truth) home(person, day int) int {
	home := 0
	for i, s := range r.k.Stays { // the last one has the greatest source
		if s.Person == person && within(r.t.Stays[i], day) {
			home = s.Family
		}
	}
	return home
}

func (r truth) lead(family, day int) int {
	with := family
	for i, b := range r.k.Bonds {
		if b.Family == family && within(r.t.Bonds[i], day) {
			with = b.With
		}
	}
	if with == family {
		return family
	}
	return r.lead(with, day)
}

// by returns who carries for a person who is away: 0 for nobody, -1 if the person is not away.
func (r truth) by(person, day int) int {
	by := -1
	for i, a := range r.k.Aways {
		if a.Person == person && within(r.t.Aways[i], day) {
			by = a.By
		}
	}
	return by
}

func (r truth) barred(person, day int) bool {
	for _, o := range r.k.Offences {
		if o.Person == person && o.Day == day-1 {
			return true
		}
	}
	return false
}

func (r truth) walks(person, day int) bool {
	return r.home(person, day) != 0 && r.by(person, day) == -1 && !r.barred(person, day)
}

// family returns for which one a person gleans; 0 for none.
func (r truth) family(person, day int) int {
	home, by := r.home(person, day), r.by(person, day)
	carried := home != 0 && !r.barred(person, day) && by > 0 && r.walks(by, day)
	if r.walks(person, day) || carried {
		return r.lead(home, day)
	}
	return 0
}

// lot says which persons and families random kin have, and from which day and source on they begin.
type lot struct{ day, person, family, source int }

const (
	dayCount    = 9 // of random kin: few days, persons and families, from those of the lot on
	personCount = 4
	familyCount = 4
	knownCount  = 5
	mostTruths  = 600
)

// lots are the first ones of all, some in the middle, and the last ones.
var lots = []lot{{0, 1, 1, 1}, {700, 500, 40, 300}, {4166 - dayCount + 1, 1000 - personCount, 100 - familyCount, 99990}, {0, 1, 1, 1}}

func (l lot) persons() []int { return count(l.person, personCount) }

func (l lot) families() []int { return count(l.family, familyCount) }

// days are those of random kin, and the one before and the one behind them, if there are.
func (l lot) days() []int {
	return slices.DeleteFunc(count(l.day-1, dayCount+2), func(day int) bool { return day < 0 || day > 4166 })
}

func count(first, n int) []int {
	var numbers []int
	for i := range n {
		numbers = append(numbers, first+i)
	}
	return numbers
}

// scene is a random kin, what counts of it as known on a day, and all true terms.
type scene struct {
	lot
	k, count api.Kin
	known    int
	all      []api.Times
}

// scenes calls try with n random scenes: always the same ones.
func scenes(seed int64, n int, try func(s scene)) {
	r := rand.New(rand.NewSource(seed))
	for i := range n {
		s := scene{lot: lots[i%len(lots)], known: r.Intn(knownCount)}
		for {
			s.k = randomKin(r, s.lot)
			s.count = counting(s.k, s.known)
			many := 1
			for _, span := range spansOf(s.count) {
				many *= (span[0].Hi - span[0].Lo + 1) * (span[1].Hi - span[1].Lo + 1)
			}
			if many <= mostTruths {
				break
			}
		}
		s.all = truths(s.count)
		try(s)
	}
}

func (s scene) truth(t api.Times) truth { return truth{s.count, t} }

// told returns all that a question is answered by some true terms, rising.
func (s scene) told(ask func(r truth) int) []int {
	var told []int
	for _, t := range s.all {
		told = append(told, ask(s.truth(t)))
	}
	slices.Sort(told)
	return slices.Compact(told)
}

func (s scene) familiesOf(person, day int) []int {
	return s.told(func(r truth) int { return r.family(person, day) })
}

// headsOf returns the least and the greatest number of persons who glean for a family.
func (s scene) headsOf(family, day int) api.Range {
	heads := s.told(func(r truth) int {
		n := 0
		for _, person := range s.persons() {
			if r.family(person, day) == family {
				n++
			}
		}
		return n
	})
	return api.Range{Lo: heads[0], Hi: heads[len(heads)-1]}
}

// staying returns the persons of all stays, rising.
func (s scene) staying() []int {
	var persons []int
	for _, stay := range s.k.Stays {
		persons = append(persons, stay.Person)
	}
	slices.Sort(persons)
	return slices.Compact(persons)
}

// sources returns those of a kin, each once.
func sources(k api.Kin) []int {
	var all []int
	for _, s := range k.Stays {
		all = append(all, s.Source)
	}
	for _, b := range k.Bonds {
		all = append(all, b.Source)
	}
	for _, a := range k.Aways {
		all = append(all, a.Source)
	}
	for _, o := range k.Offences {
		all = append(all, o.Source)
	}
	slices.Sort(all)
	return slices.Compact(all)
}

func randomKin(r *rand.Rand, l lot) api.Kin {
	var k api.Kin
	source := l.source - 1
	next := func() int {
		source += 1 + r.Intn(2)
		return source
	}
	for range 1 + r.Intn(5) {
		k.Stays = append(k.Stays, randomStay(r, l, next()))
	}
	if l.source < 99000 && r.Intn(3) > 0 { // sources of different kinds may be the same
		source = l.source - 1
	}
	for range r.Intn(4) {
		k.Bonds = append(k.Bonds, randomBond(r, l, next()))
	}
	source = l.source - 1 + r.Intn(2)
	for range r.Intn(4) {
		k.Aways = append(k.Aways, randomAway(r, l, next()))
	}
	source = l.source - 1
	for range max(0, r.Intn(4)-1) {
		k.Offences = append(k.Offences, randomOffence(r, l, next()))
	}
	dropBeyond(&k)
	return k
}

// dropBeyond drops what has no valid source.
func dropBeyond(k *api.Kin) {
	k.Stays = slices.DeleteFunc(k.Stays, func(s api.Stay) bool { return s.Source > 99999 })
	k.Bonds = slices.DeleteFunc(k.Bonds, func(b api.Bond) bool { return b.Source > 99999 })
}

func randomStay(r *rand.Rand, l lot, source int) api.Stay {
	s := api.Stay{Source: source, Person: l.person + r.Intn(personCount), Family: l.family + r.Intn(familyCount)}
	s.From, s.Till = randomSpan(r, l.day)
	s.Known, s.Until = randomTimes(r)
	return s
}

func randomBond(r *rand.Rand, l lot, source int) api.Bond {
	more := 1 + r.Intn(familyCount-1)
	b := api.Bond{Source: source, Family: l.family + more, With: l.family + r.Intn(more)}
	b.From, b.Till = randomSpan(r, l.day)
	b.Known, b.Until = randomTimes(r)
	return b
}

func randomAway(r *rand.Rand, l lot, source int) api.Away {
	a := api.Away{Source: source, Person: l.person + r.Intn(personCount)}
	if r.Intn(3) > 0 {
		a.By = l.person + r.Intn(personCount)
	}
	if a.By == a.Person {
		a.By = 0
	}
	a.From, a.Till = randomSpan(r, l.day)
	a.Known, a.Until = randomTimes(r)
	return a
}

func randomOffence(r *rand.Rand, l lot, source int) api.Offence {
	o := api.Offence{Source: source, Person: l.person + r.Intn(personCount), Day: l.day + r.Intn(dayCount)}
	o.Known, o.Until = randomTimes(r)
	return o
}

// randomSpan returns a span of which the bounds are often the same, or meet.
func randomSpan(r *rand.Rand, day int) (api.Range, api.Range) {
	ends := []int{r.Intn(dayCount), r.Intn(dayCount), r.Intn(dayCount), r.Intn(dayCount)}
	slices.Sort(ends)
	if r.Intn(2) == 0 {
		ends[0] = max(ends[0], ends[1]-1)
	}
	if r.Intn(2) == 0 {
		ends[3] = min(ends[3], ends[2]+1)
	}
	switch r.Intn(6) {
	case 0:
		ends[1] = ends[0]
	case 1:
		ends[2] = ends[3]
	case 2:
		ends[1], ends[2] = ends[0], ends[3]
	case 3:
		ends[2] = ends[1]
	}
	return from(day+ends[0], day+ends[1]), from(day+ends[2], day+ends[3])
}

func randomTimes(r *rand.Rand) (int, int) {
	known := max(0, r.Intn(knownCount+3)-4)
	if r.Intn(5) > 0 {
		return known, 0
	}
	return known, known + 1 + r.Intn(3)
}
