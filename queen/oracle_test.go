package queen_test

import (
	"regexp"
	"slices"
	"strconv"
	"strings"

	"leazing/api"
	"leazing/family"
	"leazing/relief"
	"leazing/sack"
	"leazing/settle"
	"leazing/sheaf"
)

// The chapter's definitions, written down once more: the language, and what records say.

// table is that of the chapter: of each command the word, the Kind, and the numbers.
const table = `field 1 FIELD LO HI GEESE
chain 2 ID LO HI
cell 3 CHAIN LINKS WORTH
claim 4 FAMILY HEADS FROM TO
yield 5 LO HI TOLL
mill 6 HOURS
comer 7 FAMILY HOURS WANTS
scale 8 FROM BREAD
blank 9
load 11 PARISH DAY KNOWN FIELD HOUR LO HI
stand 12 PARISH DAY KNOWN FIELD HOUR LO HI
spell 13 PARISH DAY KNOWN FIELD KIND FROM TO
proof 14 PARISH DAY KNOWN KIND PERSON PERSON PERSON OTHER PARISH THROUGH
stay 15 PARISH DAY KNOWN PERSON FAMILY LO HI LO HI
bond 16 PARISH DAY KNOWN FAMILY WITH LO HI LO HI
away 17 PARISH DAY KNOWN PERSON BY LO HI LO HI
offence 18 PARISH DAY KNOWN PERSON
pass 19 PARISH DAY KNOWN FROM TO LO HI CERT
hoard 20 PARISH DAY KNOWN FAMILY LO HI
need 21 PARISH DAY KNOWN FAMILY WEEK HEADS
crop 22 PARISH DAY KNOWN FAMILY WEEK LO HI
finding 23 PARISH DAY KNOWN FAMILY FROM TO
made 24 PARISH DAY KNOWN FAMILY GALLONS
withdraw 25 PARISH KNOWN NO
send 31 PARISH TO ABOUT
deliver 32 N
lose 33 N
double 34 N
torn 35 PARISH N N N N N N
want 41 PARISH FIELD
ring 42 PARISH FIELD
shut 43 PARISH FIELD
serve 44 PARISH
bind 45 PARISH
tear 46 PARISH N
recopy 47 PARISH
tell 48 PARISH TO
hear 49 N
miss 50 N
again 51 N
open 61 PARISH FIELD HOUR KNOWN
clear 62 PARISH FIELD HOUR KNOWN
stood 63 PARISH FIELD HOUR KNOWN
first 64 PARISH FIELD KNOWN
misled 65 PARISH FIELD KNOWN
settled 66 PARISH PERSON DAY KNOWN
right 67 PARISH PERSON WHERE DAY KNOWN
belong 68 PARISH WHERE DAY KNOWN
readings 69 PARISH KNOWN
rests 70 PARISH PERSON WHERE DAY KNOWN
families 71 PARISH PERSON DAY KNOWN
sure 72 PARISH FAMILY DAY KNOWN
may 73 PARISH FAMILY DAY KNOWN
heads 74 PARISH FAMILY DAY KNOWN
share 75 DAY
crowded 76
length 77 FROM TO
grind 78
hours 79
level 80
flour 81 LO HI
have 82 PARISH FAMILY DAY KNOWN
went 83 PARISH SOURCE KNOWN
total 84 PARISH DAY KNOWN
cert 85 PARISH CERT KNOWN
fence 86 PARISH KNOWN
clash 87 PARISH KNOWN
bread 88 PARISH FAMILY WEEK KNOWN
account 89 PARISH FAMILY KNOWN
who 90 FIELD
missing 91 PARISH FIELD
records 92`

// usage is a command as the table has it.
type usage struct {
	word  string
	kind  int
	names []string
}

// usages are all of them, in the order of the table.
var usages = func() []usage {
	var all []usage
	for _, line := range strings.Split(table, "\n") {
		words := strings.Fields(line)
		kind, _ := strconv.Atoi(words[1])
		all = append(all, usage{words[0], kind, words[2:]})
	}
	return all
}()

// usageOf returns that of a kind; false if there is none.
func usageOf(kind int) (usage, bool) {
	i := slices.IndexFunc(usages, func(u usage) bool { return u.kind == kind })
	if i < 0 {
		return usage{}, false
	}
	return usages[i], true
}

// usageNamed returns that of a word; false if there is none.
func usageNamed(word string) (usage, bool) {
	i := slices.IndexFunc(usages, func(u usage) bool { return u.word == word })
	if i < 0 {
		return usage{}, false
	}
	return usages[i], true
}

// isRight tells whether a command is right.
func isRight(c api.Command) bool {
	u, is := usageOf(c.Kind)
	for _, n := range c.Args {
		is = is && n >= -1000000000 && n <= 1000000000
	}
	return is && len(u.names) == len(c.Args)
}

var numberForm = regexp.MustCompile(`^(0|-?[1-9][0-9]*)$`)

// readNumber returns the number that a word is in a line; false if it is none.
func readNumber(word string) (int, bool) {
	if !numberForm.MatchString(word) || len(word) > 11 {
		return 0, false
	}
	n, _ := strconv.ParseInt(word, 10, 64)
	return int(n), n >= -1000000000 && n <= 1000000000
}

// wordsIn returns the words of a line; none if it says nothing.
func wordsIn(line string) []string {
	if strings.HasPrefix(line, "#") {
		return nil
	}
	return slices.DeleteFunc(strings.Split(line, " "), func(word string) bool { return word == "" })
}

// parsed is what Parse should return.
func parsed(line string) (api.Command, int, api.Errno) {
	if len(line) > 200 {
		return api.Command{}, 0, api.ErrLong
	}
	words := wordsIn(line)
	if len(words) == 0 {
		return api.Command{}, 0, api.ErrWords
	}
	u, is := usageNamed(words[0])
	if !is {
		return api.Command{}, 0, api.ErrWords
	}
	c := api.Command{Kind: u.kind}
	for at := 1; at < max(len(words), len(u.names)+1); at++ {
		if at >= len(words) || at > len(u.names) {
			return api.Command{}, at, api.ErrWords
		}
		n, is := readNumber(words[at])
		if !is {
			return api.Command{}, at, api.ErrWords
		}
		c.Args = append(c.Args, n)
	}
	return c, 0, api.OK
}

// printed is what Print should return.
func printed(c api.Command) (string, api.Errno) {
	if !isRight(c) {
		return "", api.ErrWords
	}
	u, _ := usageOf(c.Kind)
	return strings.Join(append(list(u.word), texts(c.Args)...), " "), api.OK
}

// texts returns numbers as they are written.
func texts(numbers []int) []string {
	var l []string
	for _, n := range numbers {
		l = append(l, strconv.Itoa(n))
	}
	return l
}

// textOf returns numbers with one space between two.
func textOf(numbers ...int) string { return strings.Join(texts(numbers), " ") }

var textForm = regexp.MustCompile(`^(0|[1-9][0-9]{0,8})( (0|[1-9][0-9]{0,8}))*$`)

// many is how many numbers the Text of a record of each kind has, from 1 on.
var many = list(0, 4, 4, 4, 7, 6, 6, 6, 1, 5, 3, 3, 4, 3, 2)

// sayings is all that the records of a book say.
type sayings struct {
	plots  map[int]*api.Plot
	proofs []api.Proof
	kin    api.Kin
	sacks  api.Sacks
	relief api.Relief
}

// heard returns what the records of a book say.
func heard(b api.Book) sayings {
	s := sayings{plots: map[int]*api.Plot{}}
	for field := 1; field <= 99; field++ {
		s.plots[field] = &api.Plot{}
	}
	for _, r := range b.Records {
		if r.Kind < 1 || r.Kind > 14 || !textForm.MatchString(r.Text) {
			continue
		}
		var n []int
		for _, word := range strings.Split(r.Text, " ") {
			x, _ := strconv.Atoi(word)
			n = append(n, x)
		}
		until := 0
		for _, w := range slices.Backward(b.Records) {
			if w.Kind == 0 && w.Of == r.At {
				until = w.Known
			}
		}
		if len(n) == many[r.Kind] && (until == 0 || until > r.Known) {
			s.hear(r, until, n...)
		}
	}
	return s
}

// hear takes what a record says, if that is valid.
func (s *sayings) hear(r api.Record, until int, n ...int) {
	source, known := 10000*r.At.Parish+r.At.No+1, r.Known
	between := func(i int) api.Range { return api.Range{Lo: n[i], Hi: n[i+1]} }
	switch r.Kind {
	case 1, 2, 3:
		s.hearOfField(r, until, n...)
	case 4:
		persons := strings.TrimLeft(textOf(n[1:4]...)+" ", "0 ")
		p := api.Proof{Source: source, Kind: n[0], Other: n[4], Parish: n[5], Day: r.Day, Through: n[6], Known: known, Until: until}
		for _, word := range strings.Fields(persons) {
			x, _ := strconv.Atoi(word)
			p.Persons = append(p.Persons, x)
		}
		keep(&s.proofs, p, settle.CheckProof(p))
	case 5:
		x := api.Stay{Source: source, Person: n[0], Family: n[1], From: between(2), Till: between(4), Known: known, Until: until}
		keep(&s.kin.Stays, x, family.CheckStay(x))
	case 6:
		x := api.Bond{Source: source, Family: n[0], With: n[1], From: between(2), Till: between(4), Known: known, Until: until}
		keep(&s.kin.Bonds, x, family.CheckBond(x))
	case 7:
		x := api.Away{Source: source, Person: n[0], By: n[1], From: between(2), Till: between(4), Known: known, Until: until}
		keep(&s.kin.Aways, x, family.CheckAway(x))
	case 8:
		x := api.Offence{Source: source, Person: n[0], Day: r.Day, Known: known, Until: until}
		keep(&s.kin.Offences, x, family.CheckOffence(x))
	case 9:
		x := api.Pass{Source: source, From: n[0], To: n[1], Day: r.Day, Gallons: between(2), Cert: n[4], Known: known, Until: until}
		keep(&s.sacks.Passes, x, sack.CheckPass(x))
	case 10:
		x := api.Hoard{Source: source, Family: n[0], Day: r.Day, Gallons: between(1), Known: known, Until: until}
		keep(&s.sacks.Hoards, x, sack.CheckHoard(x))
	case 11:
		x := api.Need{Source: source, Family: n[0], Week: n[1], Heads: n[2], Known: known, Until: until}
		keep(&s.relief.Needs, x, relief.CheckNeed(x))
	case 12:
		x := api.Crop{Source: source, Family: n[0], Week: n[1], Gallons: between(2), Known: known, Until: until}
		keep(&s.relief.Crops, x, relief.CheckCrop(x))
	case 13:
		x := api.Finding{Source: source, Family: n[0], From: n[1], To: n[2], Known: known, Until: until}
		keep(&s.relief.Findings, x, relief.CheckFinding(x))
	case 14:
		x := api.Made{Source: source, Family: n[0], Gallons: n[1], Known: known, Until: until}
		keep(&s.relief.Mades, x, relief.CheckMade(x))
	}
}

// hearOfField takes what a record says of a field.
func (s *sayings) hearOfField(r api.Record, until int, n ...int) {
	p, is := s.plots[n[0]]
	if !is {
		return
	}
	source, sheaves := 10000*r.At.Parish+r.At.No+1, api.Range{Lo: n[2], Hi: n[3]}
	switch r.Kind {
	case 1:
		x := api.Load{Source: source, Hour: n[1], Sheaves: sheaves, Known: r.Known, Until: until}
		keep(&p.Loads, x, sheaf.CheckLoad(x))
	case 2:
		x := api.Stand{Source: source, Hour: n[1], Sheaves: sheaves, Known: r.Known, Until: until}
		keep(&p.Stands, x, sheaf.CheckStand(x))
	case 3:
		x := api.Spell{Source: source, Kind: n[1], From: n[2], To: n[3], Known: r.Known, Until: until}
		keep(&p.Spells, x, sheaf.CheckSpell(x))
	}
}

// keep puts something at the end of a list, if it is valid.
func keep[T any](l *[]T, x T, e api.Errno) {
	if e == api.OK {
		*l = append(*l, x)
	}
}

// proofsKnown returns the proofs of a book, as known on a day.
func (s *sayings) proofsKnown(known int) []api.Proof {
	var l []api.Proof
	readings := 1
	for _, p := range s.proofs {
		counts := p.Known <= known && (p.Until == 0 || known < p.Until)
		if counts && readings*len(p.Persons) <= 2000 {
			readings *= len(p.Persons)
			l = append(l, p)
		}
	}
	return l
}
