package queen_test

import (
	"math/rand"
	"slices"
	"strings"
	"testing"

	"leazing/api"
	"leazing/bell"
	"leazing/queen"
)

// P10.3, P10.6 and P10.7: parishes with the same records, what becomes known later, and one bell.

// tellingWords are the queries of a parish that its records answer, all as known on a day.
const tellingWords = "open clear stood first misled settled right belong readings rests families sure may heads have went total cert fence clash bread account"

// questions returns random queries of a parish, of all these words.
func questions(r *rand.Rand, parish, each int) []api.Command {
	var l []api.Command
	for _, word := range strings.Fields(tellingWords) {
		u, _ := usageNamed(word)
		for range each {
			c := command(u.kind, numbersFor(r, u)...)
			c.Args[0] = parish
			l = append(l, c)
		}
	}
	return l
}

// tellers are themes of the records that these queries are about, with all that is set up for them.
func tellers(r *rand.Rand) []string {
	return oneOf(r,
		strings.Fields("load load stand spell"), strings.Fields("proof"), strings.Fields("stay stay bond away offence"),
		strings.Fields("pass pass pass hoard"), strings.Fields("need crop finding made"), strings.Fields(recordWords), strings.Fields(recordWords),
	)
}

// settled returns a queen with fields and scales, and no records.
func settled(r *rand.Rand) *queen.Queen {
	q := queen.New()
	for range 3 {
		q.Do(someCommand(r, "field"))
		q.Do(someCommand(r, "scale"))
	}
	q.Do(command(api.CmdField, 1, 40, 70, 3))
	q.Do(command(api.CmdField, 2, 50, 60, 0))
	return q
}

// deliverAll delivers letters, in any order, until none is under way.
func deliverAll(t *testing.T, r *rand.Rand, q *queen.Queen) {
	t.Helper()
	for range 2000 {
		if len(q.Letters()) == 0 {
			return
		}
		q.Do(command(api.CmdDeliver, r.Intn(100)))
	}
	t.Fatalf("letters do not end: %s", short(q.Letters()))
}

// spread lets all parishes send each other letters, until they have the same records.
func spread(t *testing.T, r *rand.Rand, q *queen.Queen) {
	t.Helper()
	for range 3 {
		for _, from := range r.Perm(6) {
			for _, to := range r.Perm(6) {
				for _, about := range r.Perm(6) {
					q.Do(command(api.CmdSend, from, to, about))
				}
				deliverAll(t, r, q)
			}
		}
		if isSpread(q) {
			return
		}
	}
	t.Fatal("records do not spread")
}

// isSpread tells whether all parishes have the same records.
func isSpread(q *queen.Queen) bool {
	for n := range 6 {
		if !slices.Equal(sortedLog(q, n), sortedLog(q, 0)) {
			return false
		}
	}
	return true
}

// sortedLog returns the records of a parish, by their items.
func sortedLog(q *queen.Queen, parish int) []api.Record {
	log := q.Parish(parish).Log
	slices.SortFunc(log, func(a, b api.Record) int { return 100*(a.At.Parish-b.At.Parish) + a.At.No - b.At.No })
	return log
}

// TestSameRecords: P10.3: parishes that came to the same records by different letters tell the same.
func TestSameRecords(t *testing.T) {
	told, other := map[string]bool{}, 0
	rounds(40, 24, func(r *rand.Rand) {
		q, words := settled(r), tellers(r)
		for range 150 {
			total := 0
			for n := range 6 {
				total += len(q.Parish(n).Log)
			}
			if total < 55 {
				q.Do(someCommand(r, oneOf(r, append(words, "withdraw")...)))
			}
			q.Do(someCommand(r, word(r, 30, letterWords, 1, "torn")))
		}
		for len(q.Letters()) > 0 {
			q.Do(command(api.CmdLose, 0))
		}
		spread(t, r, q)
		for n := range 6 {
			if !slices.Equal(q.Parish(n).Log, q.Parish(0).Log) {
				other++
			}
		}
		for _, c := range questions(r, 0, 8) {
			due := q.Do(c)
			for n := range 6 {
				c.Args[0] = n
				if answer := q.Do(c); !slices.Equal(answer, due) {
					t.Fatalf("%+v: %q, and of 0: %q", c, answer, due)
				}
			}
			told[strings.Join(due, " ")] = true
		}
	})
	if len(told) < 120 || other < 30 {
		t.Error("tried:", len(told), other)
	}
}

// TestOtherRecords: parishes with other records tell something else.
func TestOtherRecords(t *testing.T) {
	q := queen.New()
	tellEach(t, q,
		"pass 0 1 0 0 3 5 9 0", "record 0 0", "pass 1 1 0 0 3 2 2 0", "record 1 0", "have 0 3 1 0", "5 9", "have 1 3 1 0", "2 2", "have 2 3 1 0", "0 0",
		"send 0 1 0", "letters 1", "deliver 0", "letters 1", "deliver 0", "letters 1", "deliver 0", "letters 0", "have 0 3 1 0", "5 9", "have 1 3 1 0", "7 11",
		"went 1 1 0", "5 9", "went 1 10001 0", "2 2", "went 0 10001 0", "error 68",
	)
}

// later returns a command that writes a record which becomes known after a day.
func later(r *rand.Rand, words []string, parish, day int) api.Command {
	u, _ := usageNamed(oneOf(r, append(words, "withdraw", "withdraw")...))
	c := command(u.kind, numbersFor(r, u)...)
	c.Args[0] = parish
	at := 2
	if u.word == "withdraw" {
		at = 1
	}
	c.Args[at] = oneOf(r, day+1, day+1+r.Intn(9), 4166)
	return c
}

// TestAsKnown: P10.6: records that become known later, also by letters, and also those that withdraw others, change nothing that is told as known on a day.
func TestAsKnown(t *testing.T) {
	told, changed := 0, 0
	rounds(41, 110, func(r *rand.Rand) {
		q, words := settled(r), tellers(r)
		for range 5 + r.Intn(30) {
			c := someCommand(r, oneOf(r, append(words, "withdraw")...))
			c.Args[0] = 0
			q.Do(c)
		}
		day := r.Intn(12)
		asked := questions(r, 0, 6)
		var then [][]string
		for _, c := range asked {
			c.Args[len(c.Args)-1] = r.Intn(day + 1)
			then = append(then, q.Do(c))
		}
		lastly := command(api.CmdHave, 0, 1, 60, 4166)
		before := q.Do(lastly)
		for range 10 {
			q.Do(later(r, words, 0, day))
			q.Do(later(r, words, 5, day))
		}
		q.Do(command(api.CmdSend, 5, 0, 5))
		deliverAll(t, r, q)
		for i, c := range asked {
			answer := q.Do(c)
			if !slices.Equal(answer, then[i]) {
				t.Fatalf("%+v: %q, and before %q, as known up to the day %d: %s", c, answer, then[i], day, short(sortedLog(q, 0)))
			}
			if !isRefused(answer) {
				told++
			}
		}
		if !slices.Equal(before, q.Do(lastly)) {
			changed++
		}
	})
	if told < 7000 || changed < 8 {
		t.Error("tried:", told, changed)
	}
}

// TestKnownByDates: P10.6, of one record of each kind: it is told from the day on which it is known, up to the one on which it is withdrawn.
func TestKnownByDates(t *testing.T) {
	for _, c := range []struct{ set, note, ask, before, since string }{
		{"field 1 10 10 0", "load 0 0 5 1 40 3 4", "stood 0 1 40 ", "10 10", "6 7"},
		{"field 1 10 10 0", "stand 0 0 5 1 40 3 4", "misled 0 1 ", "error 15", "1"},
		{"field 1 0 0 0", "spell 0 0 5 1 1 40 40", "open 0 1 40 ", "yes", "no"},
		{"blank", "proof 0 9 5 1 0 0 7 0 3 0", "settled 0 7 10 ", "-1", "3"},
		{"blank", "stay 0 0 5 7 3 0 0 90 90", "families 0 7 10 ", "0", "3"},
		{"stay 0 0 0 7 3 0 0 90 90", "bond 0 0 5 3 2 0 0 90 90", "sure 0 2 10 ", "none", "7"},
		{"stay 0 0 0 7 3 0 0 90 90", "away 0 0 5 7 0 0 0 90 90", "may 0 3 10 ", "7", "none"},
		{"stay 0 0 0 7 3 0 0 90 90", "offence 0 9 5 7", "heads 0 3 10 ", "1 1", "0 0"},
		{"blank", "pass 0 9 5 0 3 10 20 77", "total 0 10 ", "0 0", "10 20"},
		{"pass 0 9 0 0 3 10 20 77", "hoard 0 9 5 3 12 15", "cert 0 77 ", "10 20", "12 15"},
		{"scale 0 10", "need 0 0 5 3 0 4", "bread 0 3 0 ", "0 0", "40 40"},
		{"need 0 0 0 3 0 4", "crop 0 0 5 3 0 10 20", "account 0 3 ", "0 0", "0 0"},
		{"crop 0 0 0 3 0 10 20", "finding 0 0 5 3 0 9", "account 0 3 ", "0 0", "0 10"},
		{"crop 0 0 0 3 0 10 20|finding 0 0 0 3 0 9", "made 0 0 5 3 4", "account 0 3 ", "0 10", "0 6"},
	} {
		q := queen.New()
		for _, line := range append(strings.Split(c.set, "|"), c.note) {
			x, _, _ := queen.Parse(line)
			if answer := q.Do(x); isRefused(answer) {
				t.Fatalf("%s: %q", line, answer)
			}
		}
		own := len(q.Parish(0).Log) - 1
		x := command(api.CmdWithdraw, 0, 9, own)
		q.Do(x)
		tellEach(t, q, c.ask+"4", c.before, c.ask+"5", c.since, c.ask+"8", c.since, c.ask+"9", c.before, c.ask+"4166", c.before)
	}
}

// checkOneBell wants P10.7, and returns how many fields are open.
func checkOneBell(t *testing.T, q *queen.Queen, c api.Command) int {
	t.Helper()
	open := 0
	for _, field := range list(91, 92, 93, 94) {
		var who []int
		for n := range 6 {
			if is, e := bell.IsOpen(q.Watch(n), field); e == api.OK && is {
				who = append(who, n)
			}
		}
		if len(who) > 1 {
			t.Fatalf("%+v: %d is open for %v", c, field, who)
		}
		if answer := q.Do(command(api.CmdWho, field)); !slices.Equal(answer, lists(who)) {
			t.Fatalf("who %d: %q, want %v", field, answer, who)
		}
		open += len(who)
	}
	return open
}

// bellSteps returns commands of bells that often come one after the other.
func bellSteps(r *rand.Rand) []api.Command {
	share := list(list(91, 0, 1, 2), list(92, 2, 3), list(93, 0, 3, 4, 5), list(94, 1, 5))
	field := oneOf(r, share...)
	who := r.Perm(len(field) - 1)
	me, other := field[1+who[0]], field[1+who[1]]
	all := list(
		list(command(api.CmdWant, me, field[0]), command(api.CmdBind, me)),
		list(command(api.CmdRing, me, field[0])),
		list(command(api.CmdShut, me, field[0])),
		list(command(api.CmdServe, me), command(api.CmdBind, me)),
		list(command(api.CmdServe, me)),
		list(command(api.CmdRecopy, me)),
		list(command(api.CmdTear, me, r.Intn(9)-4)),
		list(command(api.CmdTell, me, other), command(api.CmdHear, -1)),
		list(command(api.CmdTell, me, other), command(api.CmdAgain, -1), command(api.CmdHear, -1)),
		list(command(api.CmdTell, me, other)),
		list(command(api.CmdHear, r.Intn(40))),
		list(command(api.CmdMiss, r.Intn(40))),
	)
	weights := list(6, 14, 14, 14, 2, 6, 2, 44, 4, 4, 8, 2)
	n := r.Intn(120)
	for i, weight := range weights {
		n -= weight
		if n < 0 {
			return all[i]
		}
	}
	return nil
}

// TestOneBell: P10.7: peals are heard late, twice or never, and books tear.
func TestOneBell(t *testing.T) {
	open, by := 0, map[int]int{}
	rounds(42, 30, func(r *rand.Rand) {
		q := queen.New()
		for range 300 {
			steps := bellSteps(r)
			if r.Intn(10) == 0 {
				steps = list(someCommand(r, oneOf(r, strings.Fields(bellWords)...)))
			}
			for _, c := range steps {
				if answer := q.Do(c); c.Kind == api.CmdRing && !isRefused(answer) {
					by[100*c.Args[0]+c.Args[1]]++
				}
				open += checkOneBell(t, q, c)
			}
		}
	})
	if open < 15000 || len(by) < 8 {
		t.Error("tried:", open, by)
	}
}

// TestTurnsOfBells: the parishes of a field open it one after the other, if each peal is heard.
func TestTurnsOfBells(t *testing.T) {
	rounds(43, 20, func(r *rand.Rand) {
		q := queen.New()
		field := oneOf(r, 91, 92, 93, 94)
		var rung []int
		sharers := map[int][]int{91: list(0, 1, 2), 92: list(2, 3), 93: list(0, 3, 4, 5), 94: list(1, 5)}[field]
		for _, n := range sharers {
			tellEach(t, q, "want "+textOf(n, field), "ok")
		}
		for range 24 {
			for _, n := range r.Perm(6) {
				q.Do(command(api.CmdRecopy, n))
				if must[bool](t, n)(wanted(q, n, field)) && q.Do(command(api.CmdRing, n, field))[0] == "ok" {
					checkOneBell(t, q, api.Command{})
					rung = append(rung, n)
					q.Do(command(api.CmdShut, n, field))
				}
			}
			for _, n := range r.Perm(6) {
				q.Do(command(api.CmdServe, n))
				q.Do(command(api.CmdRecopy, n))
			}
			for from := range 6 {
				for to := range 6 {
					q.Do(command(api.CmdTell, from, to))
					q.Do(command(api.CmdHear, 0))
				}
			}
		}
		slices.Sort(rung)
		if !slices.Equal(rung, sharers) {
			t.Errorf("%d is rung by %v", field, rung)
		}
	})
}

// wanted tells whether a parish wants to open a field; not, if it is none of its own.
func wanted(q *queen.Queen, n, field int) (bool, api.Errno) {
	is, e := bell.Wanted(q.Watch(n), field)
	if e == api.ErrMine {
		return false, api.OK
	}
	return is, e
}
