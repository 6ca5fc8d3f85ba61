package queen_test

import (
	"cmp"
	"slices"
	"strconv"

	"leazing/api"
	"leazing/bell"
	"leazing/book"
	"leazing/drift"
	"leazing/family"
	"leazing/mill"
	"leazing/queen"
	"leazing/relief"
	"leazing/sack"
	"leazing/settle"
	"leazing/sheaf"
)

// What the commands do, written down once more: by the state that a queen has before.

// state is all that a queen has.
type state struct {
	parishes [6]api.Parish
	watches  [6]api.Watch
	setting  api.Setting
	letters  []api.Letter
	peals    []api.Peal
}

// stateOf returns that of a queen.
func stateOf(q *queen.Queen) state {
	s := state{setting: q.Setting(), letters: q.Letters(), peals: q.Peals()}
	for n := range 6 {
		s.parishes[n], s.watches[n] = q.Parish(n), q.Watch(n)
	}
	return s
}

// sameState tells whether two states are the same.
func sameState(a, b state) bool {
	return same(a.parishes, b.parishes) && same(a.watches, b.watches) && same(a.setting, b.setting) && same(a.letters, b.letters) && same(a.peals, b.peals)
}

// stop is a panic by which a command is refused.
type stop struct{ e api.Errno }

// check refuses a command by the first of some errors.
func check(l ...api.Errno) {
	for _, e := range l {
		if e != api.OK {
			panic(stop{e})
		}
	}
}

// when returns an error, if there is a reason.
func when(is bool, e api.Errno) api.Errno {
	if is {
		return e
	}
	return api.OK
}

// get returns a result, or refuses the command.
func get[T any](x T, e api.Errno) T {
	check(e)
	return x
}

// due returns what a queen should answer, and what she should have then. What is free in answers is what the layers return.
func (s state) due(c api.Command) (answer []string, after state) {
	after = s
	defer func() {
		if x := recover(); x != nil {
			answer = list("error " + strconv.Itoa(int(x.(stop).e)))
		}
	}()
	check(when(!isRight(c), api.ErrWords))
	u, _ := usageOf(c.Kind)
	ofParish := len(u.names) > 0 && u.names[0] == "PARISH"
	check(when(ofParish && (c.Args[0] < 0 || c.Args[0] > 5), api.ErrArg))
	answer = after.do(u.word, c.Args...)
	return answer, after
}

var (
	fine  = list("ok")
	empty = list("none")
)

// lists returns numbers as an answer.
func lists(numbers []int) []string {
	if len(numbers) == 0 {
		return empty
	}
	return list(textOf(numbers...))
}

func ranges(x api.Range) []string { return list(textOf(x.Lo, x.Hi)) }

func answers(n int) []string { return list(list("no", "yes", "maybe")[n]) }

// do does a command. With a refusal, the state has to be as it was, but for letters and peals that are gone.
func (s *state) do(word string, n ...int) []string {
	switch word {
	case "field", "chain", "cell", "claim", "yield", "mill", "comer", "scale", "blank":
		s.setUp(word, n...)
		return fine
	case "withdraw":
		return s.withdraw(n[0], n[1], n[2])
	case "send", "deliver", "lose", "double", "torn":
		return s.post(word, n...)
	case "want", "ring", "shut", "serve", "bind", "tear", "recopy":
		s.ring(word, n...)
		return fine
	case "tell", "hear", "miss", "again":
		return s.toll(word, n...)
	case "share", "crowded", "length", "grind", "hours", "level", "flour", "who", "missing", "records":
		return s.ask(word, n...)
	}
	if u, _ := usageNamed(word); u.kind < 25 {
		return s.note(u.kind-10, n...)
	}
	return s.askKnown(word, n...)
}

// placed returns a list with x in the place of the one that has its number, or at its place.
func placed[T any](l []T, x T, number func(T) int, most int) []T {
	l = slices.DeleteFunc(slices.Clone(l), func(y T) bool { return number(x) == number(y) })
	l = append(l, x)
	slices.SortFunc(l, func(x, y T) int { return cmp.Compare(number(x), number(y)) })
	check(when(len(l) > most, api.ErrLong))
	return l
}

func (s *state) setUp(word string, n ...int) {
	t := &s.setting
	switch word {
	case "field":
		m := api.Meadow{Field: n[0], Sown: api.Range{Lo: n[1], Hi: n[2]}, Geese: n[3]}
		check(when(n[0] < 1 || n[0] > 99, api.ErrArg), sheaf.Check(api.Plot{Sown: m.Sown, Geese: m.Geese}))
		t.Meadows = placed(t.Meadows, m, func(m api.Meadow) int { return m.Field }, 10)
	case "chain":
		x := api.Chain{Id: n[0], Link: api.Range{Lo: n[1], Hi: n[2]}}
		check(drift.CheckChain(x))
		t.Ground.Chains = placed(t.Ground.Chains, x, func(c api.Chain) int { return c.Id }, 6)
	case "cell":
		x := api.Cell{Chain: n[0], Links: n[1], Worth: n[2]}
		check(drift.CheckCell(x), when(len(t.Ground.Cells) == 24, api.ErrLong))
		t.Ground.Cells = append(slices.Clone(t.Ground.Cells), x)
	case "claim":
		x := api.Claim{Family: n[0], Heads: n[1], From: n[2], To: n[3]}
		check(drift.CheckClaim(x), when(len(t.Claims) == 12, api.ErrLong))
		t.Claims = append(slices.Clone(t.Claims), x)
	case "yield":
		x := api.Yield{Gallons: api.Range{Lo: n[0], Hi: n[1]}, Toll: n[2]}
		check(mill.CheckYield(x))
		t.Yield = x
	case "mill":
		check(when(n[0] < 0 || n[0] > 24, api.ErrArg))
		t.Mill = api.Mill{Hours: n[0]}
	case "comer":
		t.Mill = get(mill.With(t.Mill, api.Comer{Family: n[0], Hours: n[1], Wants: n[2]}))
	case "scale":
		x := api.Scale{From: n[0], Bread: n[1]}
		check(relief.CheckScale(x))
		t.Scales = placed(t.Scales, x, func(s api.Scale) int { return s.From }, 10)
	case "blank":
		t.Ground, t.Claims, t.Mill = api.Ground{}, nil, api.Mill{}
	}
}

// wrongIn returns the error of what a record of a kind would say.
func wrongIn(kind, source, day, known int, n ...int) api.Errno {
	between := func(i int) api.Range { return api.Range{Lo: n[i], Hi: n[i+1]} }
	if kind <= 3 && (n[0] < 1 || n[0] > 99) {
		return api.ErrArg
	}
	switch kind {
	case 1:
		return sheaf.CheckLoad(api.Load{Source: source, Hour: n[1], Sheaves: between(2), Known: known})
	case 2:
		return sheaf.CheckStand(api.Stand{Source: source, Hour: n[1], Sheaves: between(2), Known: known})
	case 3:
		return sheaf.CheckSpell(api.Spell{Source: source, Kind: n[1], From: n[2], To: n[3], Known: known})
	case 4:
		if n[1] != 0 && n[2] == 0 || n[2] != 0 && n[3] == 0 {
			return api.ErrArg
		}
		persons := slices.DeleteFunc(slices.Clone(n[1:4]), func(p int) bool { return p == 0 })
		return settle.CheckProof(api.Proof{Source: source, Kind: n[0], Persons: persons, Other: n[4], Parish: n[5], Day: day, Through: n[6], Known: known})
	case 5:
		return family.CheckStay(api.Stay{Source: source, Person: n[0], Family: n[1], From: between(2), Till: between(4), Known: known})
	case 6:
		return family.CheckBond(api.Bond{Source: source, Family: n[0], With: n[1], From: between(2), Till: between(4), Known: known})
	case 7:
		return family.CheckAway(api.Away{Source: source, Person: n[0], By: n[1], From: between(2), Till: between(4), Known: known})
	case 8:
		return family.CheckOffence(api.Offence{Source: source, Person: n[0], Day: day, Known: known})
	case 9:
		return sack.CheckPass(api.Pass{Source: source, From: n[0], To: n[1], Day: day, Gallons: between(2), Cert: n[4], Known: known})
	case 10:
		return sack.CheckHoard(api.Hoard{Source: source, Family: n[0], Day: day, Gallons: between(1), Known: known})
	case 11:
		return relief.CheckNeed(api.Need{Source: source, Family: n[0], Week: n[1], Heads: n[2], Known: known})
	case 12:
		return relief.CheckCrop(api.Crop{Source: source, Family: n[0], Week: n[1], Gallons: between(2), Known: known})
	case 13:
		return relief.CheckFinding(api.Finding{Source: source, Family: n[0], From: n[1], To: n[2], Known: known})
	}
	return relief.CheckMade(api.Made{Source: source, Family: n[0], Gallons: n[1], Known: known})
}

// own returns the records of a parish's own.
func (s *state) own(me int) []api.Record {
	return slices.DeleteFunc(slices.Clone(s.parishes[me].Log), func(r api.Record) bool { return r.At.Parish != me })
}

func (s *state) note(kind int, n ...int) []string {
	me, day, known := n[0], n[1], n[2]
	check(wrongIn(kind, 10000*me+len(s.own(me))+1, day, known, n[3:]...))
	return s.write(me, api.Record{Kind: kind, Day: day, Known: known, Text: textOf(n[3:]...)})
}

func (s *state) write(me int, r api.Record) []string {
	p, r, e := book.Note(s.parishes[me], r)
	check(e)
	s.parishes[me] = p
	return list("record " + textOf(r.At.Parish, r.At.No))
}

func (s *state) withdraw(me, known, no int) []string {
	own := s.own(me)
	check(when(no < 0 || no >= len(own), api.ErrNone))
	check(when(own[no].Kind == 0, api.ErrArg))
	for _, r := range own {
		check(when(r.Kind == 0 && r.Of.No == no, api.ErrArg))
	}
	return s.write(me, api.Record{Known: known, Of: api.Item{Parish: me, No: no}})
}

// without returns a list without the one that has an index.
func without[T any](l []T, i int) []T { return slices.Concat(l[:i], l[i+1:]) }

// indexIn returns which one of so many a number means.
func indexIn(n, many int) int {
	check(when(many == 0, api.ErrNone))
	i := n % many
	if i < 0 {
		i += many
	}
	return i
}

func (s *state) post(word string, n ...int) []string {
	switch word {
	case "torn":
		s.parishes[n[0]] = get(book.Restart(s.parishes[n[0]], n[1:]))
		return list("records " + textOf(len(s.parishes[n[0]].Log)))
	case "send":
		p, l, e := book.Send(s.parishes[n[0]], n[1], n[2])
		check(e, when(len(s.letters) == 40, api.ErrLong))
		s.parishes[n[0]], s.letters = p, append(slices.Clone(s.letters), l)
	default:
		i := indexIn(n[0], len(s.letters))
		l := s.letters[i]
		if word == "double" {
			check(when(len(s.letters) == 40, api.ErrLong))
			s.letters = append(slices.Clone(s.letters), l)
			break
		}
		s.letters = without(s.letters, i)
		if word == "deliver" {
			p, back, e := book.Receive(s.parishes[l.To], l)
			check(e)
			s.parishes[l.To], s.letters = p, append(s.letters, back...)
		}
	}
	return list("letters " + textOf(len(s.letters)))
}

func (s *state) ring(word string, n ...int) {
	w := s.watches[n[0]]
	switch word {
	case "want":
		w = get(bell.Want(w, n[1]))
	case "ring":
		w = get(bell.Ring(w, n[1]))
	case "shut":
		w = get(bell.Shut(w, n[1]))
	case "serve":
		w = get(bell.Serve(w))
	case "bind":
		w = get(bell.Bind(w))
	case "tear":
		w = get(bell.Tear(w, n[1]))
	case "recopy":
		w = get(bell.Recopy(w))
	}
	s.watches[n[0]] = w
}

func (s *state) toll(word string, n ...int) []string {
	if word == "tell" {
		p := get(bell.Tell(s.watches[n[0]], n[1]))
		check(when(len(s.peals) == 40, api.ErrLong))
		s.peals = append(slices.Clone(s.peals), p)
		return list("peals " + textOf(len(s.peals)))
	}
	i := indexIn(n[0], len(s.peals))
	p := s.peals[i]
	if word == "again" {
		check(when(len(s.peals) == 40, api.ErrLong))
		s.peals = append(slices.Clone(s.peals), p)
	} else {
		s.peals = without(s.peals, i)
	}
	if word == "hear" {
		s.watches[p.To] = get(bell.Hear(s.watches[p.To], p))
	}
	return list("peals " + textOf(len(s.peals)))
}

func (s *state) ask(word string, n ...int) []string {
	t := s.setting
	switch word {
	case "share":
		claims := get(drift.Turn(t.Ground, t.Claims, n[0]))
		least := get(drift.Least(t.Ground, claims))
		lines := list("gain " + textOf(least.Num, least.Den))
		for _, d := range get(drift.Share(t.Ground, claims)) {
			lines = append(lines, textOf(d.From, d.To))
		}
		return lines
	case "crowded":
		get(drift.Crowded(t.Ground, t.Claims))
		for i := range 144 {
			if crowd := (api.Crowd{First: i / 12, Last: i % 12}); drift.CheckCrowd(t.Ground, t.Claims, crowd) == api.OK {
				return list(textOf(i/12, i%12))
			}
		}
	case "length":
		return ranges(get(drift.Length(t.Ground, api.Drift{From: n[0], To: n[1]})))
	case "grind":
		lines := list("level "+textOf(get(mill.Level(t.Mill))), "turns")
		for _, family := range get(mill.Share(t.Mill)) {
			lines[1] += " " + textOf(family)
		}
		return lines
	case "hours":
		return lists(get(mill.Hours(t.Mill)))
	case "level":
		return list(textOf(get(mill.Level(t.Mill))))
	case "flour":
		return ranges(get(mill.Flour(t.Yield, api.Range{Lo: n[0], Hi: n[1]})))
	case "who":
		return lists(get(bell.Who(s.watches[:], n[0])))
	case "missing":
		return lists(get(bell.Missing(s.watches[n[0]], n[1])))
	}
	var lines []string
	for _, p := range s.parishes {
		lines = append(lines, "records "+textOf(len(p.Log)))
	}
	return lines
}

// askKnown answers what is asked of a parish's records.
func (s *state) askKnown(word string, n ...int) []string {
	told := heard(get(book.Sorted(s.parishes[n[0]].Log)))
	known := n[len(n)-1]
	switch word {
	case "open", "clear", "stood", "first", "misled":
		return s.askField(told, word, n[1:]...)
	case "settled", "right", "belong", "readings", "rests":
		check(when(known < 0 || known > 4166, api.ErrDay))
		return askProofs(told.proofsKnown(known), word, n[1:]...)
	case "families":
		return lists(get(family.Families(told.kin, n[1], n[2], known)))
	case "sure":
		return lists(get(family.Sure(told.kin, n[1], n[2], known)))
	case "may":
		return lists(get(family.May(told.kin, n[1], n[2], known)))
	case "heads":
		return ranges(get(family.Heads(told.kin, n[1], n[2], known)))
	case "have":
		return ranges(get(sack.Have(told.sacks, api.Spot{Family: n[1], Day: n[2]}, known)))
	case "went":
		return ranges(get(sack.Went(told.sacks, n[1], known)))
	case "total":
		return ranges(get(sack.Total(told.sacks, n[1], known)))
	case "cert":
		return ranges(get(sack.Rests(told.sacks, n[1], known)))
	case "clash":
		return lists(get(sack.Clash(told.sacks, known)))
	case "fence":
		f := get(sack.Fence(told.sacks, known))
		lines := list("contradiction", "fence no")
		if f.Over {
			lines[1] = "fence yes"
		}
		for _, x := range f.Spots {
			lines[1] += " " + textOf(x.Family, x.Day)
		}
		return lines
	}
	told.relief.Scales = s.setting.Scales
	if word == "bread" {
		return ranges(get(relief.Bread(told.relief, n[1], n[2], known)))
	}
	a := get(relief.Stands(told.relief, n[1], known))
	return list(textOf(a.Bread, a.Owed))
}

func (s *state) askField(told sayings, word string, n ...int) []string {
	i := slices.IndexFunc(s.setting.Meadows, func(m api.Meadow) bool { return m.Field == n[0] })
	check(when(i < 0, api.ErrNone))
	m := s.setting.Meadows[i]
	plot := *told.plots[m.Field]
	plot.Sown, plot.Geese = m.Sown, m.Geese
	switch word {
	case "open":
		return answers(get(sheaf.Open(plot, n[1], n[2])))
	case "clear":
		return answers(get(sheaf.Clear(plot, n[1], n[2])))
	case "stood":
		return ranges(get(sheaf.Stood(plot, n[1], n[2])))
	case "first":
		return ranges(get(sheaf.First(plot, n[1])))
	}
	return lists(get(sheaf.Clash(plot, n[1])))
}

func askProofs(proofs []api.Proof, word string, n ...int) []string {
	switch word {
	case "settled":
		return lists(get(settle.Where(proofs, n[0], n[1], n[2])))
	case "right":
		return answers(get(settle.Right(proofs, n[0], n[1], n[2], n[3])))
	case "belong":
		return lists(get(settle.Belong(proofs, n[0], n[1], n[2])))
	case "readings":
		return list(textOf(get(settle.Readings(proofs, n[0]))))
	}
	return lists(get(settle.Rests(proofs, n[0], n[1], n[2], n[3])))
}
