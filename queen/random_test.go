package queen_test

import (
	"math/rand"
	"slices"
	"strings"

	"leazing/api"
	"leazing/book"
)

// Random commands, records, books and scripts, of a small world: few fields, families and persons, and early days.

// rounds calls a test with many random sources, each with its own seed.
func rounds(seed int64, n int, try func(r *rand.Rand)) {
	for i := range n {
		try(rand.New(rand.NewSource(seed*1000000 + int64(i))))
	}
}

// oneOf returns one of some values.
func oneOf[T any](r *rand.Rand, values ...T) T { return values[r.Intn(len(values))] }

// odd returns a number that is seldom right.
func odd(r *rand.Rand) int {
	return oneOf(r, -1000000000, -1, 0, 1, 6, 7, 24, 25, 99, 100, 595, 596, 999, 1000, 4166, 4167, 9999, 10000, 10001, 99999, 100000, 999999999, 1000000000)
}

// between returns two numbers, the first of which is no greater.
func between(r *rand.Rand, least, room, wide int) (int, int) {
	lo := least + r.Intn(room)
	return lo, lo + r.Intn(wide)
}

// span returns the bounds of the first and of the last day of something.
func span(r *rand.Rand) []int {
	a, b := between(r, 0, 30, 12)
	c, d := between(r, b, 30, 12)
	return list(a, b, c, d)
}

// told returns numbers that the Text of a record of a kind has, mostly such that it says something.
func told(r *rand.Rand, kind int) []int {
	family, person := 1+r.Intn(4), 1+r.Intn(6)
	switch kind {
	case api.RecLoad:
		lo, hi := between(r, 3, 10, 12)
		return list(1+r.Intn(2), 20+r.Intn(30), lo, hi)
	case api.RecStand:
		lo, hi := between(r, 0, 30, 40)
		return list(1+r.Intn(2), 20+r.Intn(30), oneOf(r, 0, lo), hi)
	case api.RecSpell:
		from, to := between(r, 20, 40, 20)
		return list(1+r.Intn(2), 1+r.Intn(2), from, to)
	case api.RecProof:
		return proof(r)
	case api.RecStay:
		return append(list(person, family), span(r)...)
	case api.RecBond:
		return append(list(2+r.Intn(3), 1), span(r)...)
	case api.RecAway:
		return append(list(person, oneOf(r, 0, 7, 1+r.Intn(6))), span(r)...)
	case api.RecOffence:
		return list(person)
	case api.RecPass:
		lo, hi := between(r, 0, 30, 40)
		if r.Intn(3) > 0 {
			return list(0, family, lo, hi, oneOf(r, 0, 1, 2, 3))
		}
		return list(family, oneOf(r, 0, family%4+1), oneOf(r, 0, 0, 0, lo), hi, 0)
	case api.RecHoard:
		lo, hi := between(r, 0, 20, 80)
		return list(family, oneOf(r, 0, 0, 0, lo), 40+hi)
	case api.RecNeed:
		return list(family, r.Intn(6), r.Intn(6))
	case api.RecCrop:
		lo, hi := between(r, 0, 20, 20)
		return list(family, r.Intn(6), lo, hi)
	case api.RecFinding:
		from, to := between(r, 0, 5, 3)
		return list(family, from, to)
	}
	return list(family, 1+r.Intn(20))
}

// proof returns the numbers of one.
func proof(r *rand.Rand) []int {
	persons := slices.Sorted(slices.Values(r.Perm(6)[:3]))
	n := append(list(1+r.Intn(8)), 0, 0, persons[2]+1)
	if r.Intn(2) == 0 {
		n[2] = persons[1] + 1
	}
	if r.Intn(4) == 0 {
		n[1], n[2] = persons[0]+1, persons[1]+1
	}
	other, parish, through := 0, r.Intn(3), 0
	switch n[0] {
	case api.PfMarried:
		other, parish = 1+r.Intn(6), 0
	case api.PfService, api.PfRent, api.PfBound:
		through = oneOf(r, 60, 200, 500) + r.Intn(30)
	}
	return append(n, other, parish, through)
}

// day and known return days on which something is, and is known.
func day(r *rand.Rand) int { return oneOf(r, 0, r.Intn(60), r.Intn(60), r.Intn(60), 400+r.Intn(60)) }

func known(r *rand.Rand) int { return oneOf(r, 0, 0, r.Intn(12), r.Intn(12), 4166) }

// word returns one of some words, each of which stands behind its weight.
func word(r *rand.Rand, weights ...any) string {
	all := 0
	for i := 0; i < len(weights); i += 2 {
		all += weights[i].(int)
	}
	n := r.Intn(all)
	for i := 0; ; i += 2 {
		n -= weights[i].(int)
		if n < 0 {
			return oneOf(r, strings.Fields(weights[i+1].(string))...)
		}
	}
}

const (
	settingWords = "field field chain cell cell cell claim claim yield mill comer comer comer scale"
	recordWords  = "load stand spell proof proof stay bond away offence pass pass hoard need crop finding made"
	letterWords  = "send send send deliver deliver deliver deliver deliver deliver lose double double"
	bellWords    = "want want ring ring ring shut shut serve serve bind bind tear recopy tell tell tell hear hear hear miss again again"
	queryWords   = "open clear stood first misled settled right belong readings rests families sure may heads share crowded length grind hours level flour have went total cert fence clash bread account who missing records"
)

// anyCommand returns a random one, that often is not refused.
func anyCommand(r *rand.Rand) api.Command {
	return someCommand(r, word(r, 16, settingWords, 40, recordWords, 3, "withdraw", 12, letterWords, 1, "torn", 24, bellWords, 40, queryWords, 1, "blank"))
}

// themes are words that belong together.
var themes = list(
	"field load load stand spell withdraw open clear stood first misled send deliver",
	"proof proof proof withdraw settled right belong readings rests send deliver",
	"stay stay bond away offence withdraw families sure may heads send deliver",
	"chain cell cell cell claim share crowded length",
	"chain cell cell cell cell cell cell cell claim share share crowded length blank",
	"yield mill comer comer grind hours level flour",
	"pass pass hoard withdraw have went went total cert fence clash send deliver",
	"pass pass pass pass pass hoard have went went total cert fence clash",
	"scale need need crop crop finding made withdraw bread account send deliver",
	bellWords+" who missing",
	bellWords+" recopy recopy shut shut who missing",
	letterWords+" torn offence records",
)

// themed returns a function that returns random commands, mostly of one theme.
func themed(r *rand.Rand) func() api.Command {
	theme := oneOf(r, themes...)
	return func() api.Command {
		if r.Intn(12) == 0 {
			return anyCommand(r)
		}
		return someCommand(r, oneOf(r, strings.Fields(theme)...))
	}
}

// someCommand returns a random one that has a word; sometimes it is spoilt.
func someCommand(r *rand.Rand, word string) api.Command {
	u, _ := usageNamed(word)
	c := command(u.kind, numbersFor(r, u)...)
	switch r.Intn(40) {
	case 0:
		if len(c.Args) > 0 {
			c.Args[r.Intn(len(c.Args))] = odd(r)
		}
	case 1:
		if len(c.Args) > 0 {
			c.Args[r.Intn(len(c.Args))] += oneOf(r, -1, 1)
		}
	}
	return c
}

// numbersFor returns the numbers of a command.
func numbersFor(r *rand.Rand, u usage) []int {
	if u.kind >= 11 && u.kind <= 24 {
		return append(list(r.Intn(3), day(r), known(r)), told(r, u.kind-10)...)
	}
	if slices.Contains(strings.Fields("want ring shut missing"), u.word) && r.Intn(12) > 0 {
		return oneOf(r, list(0, 91), list(1, 91), list(2, 91), list(2, 92), list(3, 92), list(0, 93), list(3, 93), list(4, 93), list(5, 93), list(1, 94), list(5, 94))
	}
	lo, hi := between(r, 0, 30, 30)
	switch u.word {
	case "field":
		return list(oneOf(r, 1, 2, 1+r.Intn(12)), 30+lo, 30+hi, r.Intn(4))
	case "chain":
		return list(oneOf(r, 1, 1, 2, 3), 1+lo, 1+hi)
	case "cell":
		return list(oneOf(r, 1, 1, 1, 1, 2), 1+r.Intn(12), r.Intn(20))
	case "claim":
		from, to := between(r, 0, 4, 4)
		return list(1+r.Intn(99), 1+r.Intn(3), from, to)
	case "yield":
		return list(lo, hi, 2+r.Intn(20))
	case "mill":
		return list(oneOf(r, 0, 3, 8, 24))
	case "comer":
		return list(1+r.Intn(20), r.Intn(oneOf(r, 8, 8, 256)), r.Intn(6))
	case "scale":
		return list(r.Intn(12), r.Intn(10))
	case "send":
		return list(r.Intn(6), r.Intn(6), r.Intn(3))
	case "torn":
		return list(r.Intn(6), r.Intn(8)-4, r.Intn(9), r.Intn(300), r.Intn(9), r.Intn(300), -r.Intn(9))
	case "flour":
		return list(lo, hi)
	case "length":
		from, to := between(r, 0, 3, 3)
		return list(from, to)
	}
	var n []int
	for _, name := range u.names {
		n = append(n, numberFor(r, u.word, name))
	}
	return n
}

// numberFor returns a number of a command that has a name.
func numberFor(r *rand.Rand, word, name string) int {
	switch name {
	case "PARISH":
		if slices.Contains(strings.Fields(bellWords+" missing"), word) {
			return r.Intn(6)
		}
		return oneOf(r, 0, 1, 2, r.Intn(3), r.Intn(6))
	case "FIELD":
		if slices.Contains(strings.Fields(bellWords+" missing who"), word) {
			return oneOf(r, 91, 92, 93, 94)
		}
		return oneOf(r, 1, 2, 1, 2, 1+r.Intn(12))
	case "KNOWN":
		return known(r)
	case "DAY":
		return day(r)
	case "HOUR":
		return 20 + r.Intn(40)
	case "PERSON":
		return 1 + r.Intn(7)
	case "FAMILY":
		return 1 + r.Intn(4)
	case "WHERE":
		return r.Intn(3)
	case "WEEK":
		return r.Intn(8)
	case "TO":
		return r.Intn(6)
	case "CERT":
		return 1 + r.Intn(3)
	case "SOURCE":
		return 1 + r.Intn(12) + 10000*r.Intn(3)
	case "NO":
		return oneOf(r, 0, r.Intn(6), r.Intn(20))
	}
	return oneOf(r, 0, 1, r.Intn(50), -r.Intn(50)) // N
}

// scriptOf returns commands as a script.
func scriptOf(commands ...api.Command) string {
	script := ""
	for _, c := range commands {
		line, _ := printed(c)
		script += line + "\n"
	}
	return script
}

// anyScript returns a random script of so many lines.
func anyScript(r *rand.Rand, lines int) string {
	var all []api.Command
	for range lines {
		all = append(all, anyCommand(r))
	}
	return scriptOf(all...)
}

// spoiltText returns a Text that often is of another form, or says something else.
func spoiltText(r *rand.Rand, text string) string {
	words := strings.Split(text, " ")
	i := r.Intn(len(words))
	switch r.Intn(12) {
	case 0:
		return text + oneOf(r, " ", " 0", " 7", "  7", "a", ".", "0")
	case 1:
		return oneOf(r, " ", "0 ", "0", "+", "-", "a") + text
	case 2:
		words = without(words, i)
	case 3:
		words[i] = oneOf(r, "+", "-", "0", "00") + words[i]
	case 4:
		words[i] = oneOf(r, "", " ", "-0", "00", "x", "1e3", "0x1", "1_0", "١")
	case 5:
		words[i] = oneOf(r, "999999999", "1000000000", "0000000001", "99999999999999999999")
	case 6:
		words[i] += oneOf(r, " ", "a", "0", ".")
	case 7:
		words[i] = "0"
	case 8:
		words[i] = textOf(odd(r))
	case 9:
		words = slices.Insert(words, i, "0")
	case 10:
		return oneOf(r, "", " ", "0", "1 2 3 4", text+" "+text)
	default:
		j := r.Intn(len(words))
		words[i], words[j] = words[j], words[i]
	}
	return strings.Join(words, " ")
}

// isPlain tells whether a text can be that of a record.
func isPlain(text string) bool {
	return len(text) <= 160 && !strings.ContainsFunc(text, func(c rune) bool { return c < 32 || c > 126 })
}

// anyRecord returns a random one with an item: sometimes of a kind that says nothing, and sometimes with a Text that says nothing.
func anyRecord(r *rand.Rand, at api.Item) api.Record {
	if at.No > 0 && r.Intn(6) == 0 {
		return api.Record{At: at, Known: known(r), Of: api.Item{Parish: at.Parish, No: r.Intn(at.No)}}
	}
	kind := 1 + r.Intn(14)
	x := api.Record{At: at, Kind: kind, Day: day(r), Known: known(r), Text: textOf(told(r, kind)...)}
	if r.Intn(6) == 0 {
		x.Kind = oneOf(r, 15, 24, 60, 1+r.Intn(14))
	}
	if spoilt := spoiltText(r, x.Text); r.Intn(4) == 0 && isPlain(spoilt) {
		x.Text = spoilt
	}
	return x
}

// anyBook returns a random one.
func anyBook(r *rand.Rand) api.Book {
	var log []api.Record
	var have [6]int
	parishes := r.Perm(6)[:1+r.Intn(6)]
	for range oneOf(r, 0, 1, r.Intn(61), r.Intn(61), 60) {
		p := oneOf(r, parishes...)
		log = append(log, anyRecord(r, api.Item{Parish: p, No: have[p]}))
		have[p]++
	}
	b, e := book.Sorted(log)
	if e != api.OK {
		panic(e)
	}
	return b
}
