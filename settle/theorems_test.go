package settle_test

import (
	"math/rand"
	"slices"
	"testing"

	"leazing/api"
	"leazing/settle"
)

// P2.2 to P2.8: what holds between the functions, told by their results alone.

// must returns what a call returns without an error.
func must[T any](t *testing.T, x T, e api.Errno) T {
	t.Helper()
	if e != api.OK {
		t.Fatal("error", e)
	}
	return x
}

// TestByEveryReading: P2.2.
func TestByEveryReading(t *testing.T) {
	scenes(400, 2, func(s scene) {
		if len(s.readings) == 0 {
			return
		}
		for parish := range parishes {
			belong := numbers(t)(settle.Belong(s.l, parish, s.day, s.known))
			may := numbers(t)(settle.May(s.l, parish, s.day, s.known))
			for _, person := range numbers(t)(settle.Persons(s.l, s.known)) {
				answer, e := settle.Right(s.l, person, parish, s.day, s.known)
				must(t, answer, e)
				where := numbers(t)(settle.Where(s.l, person, s.day, s.known))
				for _, reading := range s.readings { // one of them is the true one
					at, e := settle.Settled(s.l, reading, person, s.day, s.known)
					must(t, at, e)
					surely := answer == api.Yes || slices.Contains(belong, person)
					never := answer == api.No || !slices.Contains(may, person)
					if surely && at != parish || never && at == parish || !slices.Contains(where, at) {
						t.Fatalf("%+v: %d is settled in %d by %v; right in %d: %d, where %v, belong %v, may %v", s, person, at, reading, parish, answer, where, belong, may)
					}
				}
			}
		}
	})
}

// numbers is must for the lists of calls that return one.
func numbers(t *testing.T) func(l []int, e api.Errno) []int {
	return func(l []int, e api.Errno) []int {
		t.Helper()
		return must(t, l, e)
	}
}

// TestShown: P2.3.
func TestShown(t *testing.T) {
	scenes(400, 3, func(s scene) {
		for person := 1; person <= lastPerson+1 && len(s.readings) > 0; person++ {
			where := numbers(t)(settle.Where(s.l, person, s.day, s.known))
			for parish := range parishes + 1 {
				answer, e := settle.Right(s.l, person, parish, s.day, s.known)
				must(t, answer, e)
				is, isNot := shown(t, s, person, parish, true), shown(t, s, person, parish, false)
				if is != (answer != api.No) || isNot != (answer != api.Yes) {
					t.Fatalf("%+v: right of %d in %d is %d; shown that it is: %t, that it is not: %t", s, person, parish, answer, is, isNot)
				}
				if is != slices.Contains(where, parish) {
					t.Fatalf("%+v: where of %d is %v; shown for %d: %t", s, person, where, parish, is)
				}
			}
			if slices.Contains(where, -1) && !slices.ContainsFunc(s.readings, func(reading []int) bool {
				at, e := settle.Settled(s.l, reading, person, s.day, s.known)
				return e == api.OK && at == -1
			}) {
				t.Fatalf("%+v: %d is settled nowhere by no reading", s, person)
			}
		}
	})
}

// shown tells whether Show returns a reading, and checks it.
func shown(t *testing.T, s scene, person, parish int, settled bool) bool {
	t.Helper()
	reading, e := settle.Show(s.l, person, parish, s.day, s.known, settled)
	if e == api.ErrNone {
		return false
	}
	at, f := settle.Settled(s.l, reading, person, s.day, s.known)
	if g := settle.CheckReading(s.l, s.known, reading); e != api.OK || f != api.OK || g != api.OK || (at == parish) != settled {
		t.Fatalf("%+v: %v is shown for %d in %d, %t: errors %d, %d, %d", s, reading, person, parish, settled, e, f, g)
	}
	return true
}

// TestEither: P2.4.
func TestEither(t *testing.T) {
	scenes(1000, 1, func(s scene) {
		n, e := settle.Readings(s.l, s.known)
		must(t, n, e)
		by, e := settle.Clash(s.l, s.known)
		if n > 0 && e != api.ErrRead || n == 0 && e != api.OK {
			t.Fatalf("%+v: %d readings, and a clash %v, error %d", s, n, by, e)
		}
		if f := settle.CheckClash(s.l, s.known, by); (f == api.OK) != (n == 0) {
			t.Fatalf("%+v: the clash %v is accepted with %d", s, by, f)
		}
		var last []int
		for i := range n {
			reading := numbers(t)(settle.Reading(s.l, s.known, i))
			if settle.CheckReading(s.l, s.known, reading) != api.OK || i > 0 && slices.Compare(last, reading) >= 0 {
				t.Fatalf("%+v: %v after %v", s, reading, last)
			}
			last = reading
		}
		accepted := 0
		for _, tried := range triedOf(s.count) {
			if settle.CheckReading(s.l, s.known, tried) == api.OK {
				accepted++
			}
		}
		if accepted != n {
			t.Fatalf("%+v: %d readings, %d are accepted", s, n, accepted)
		}
	})
}

// TestRestsAndStays: P2.5, its first sentence.
func TestRestsAndStays(t *testing.T) {
	scenes(300, 2, func(s scene) {
		if len(s.readings) == 0 {
			return
		}
		for person := 1; person <= lastPerson; person++ {
			for parish := range parishes {
				rests := numbers(t)(settle.Rests(s.l, person, parish, s.day, s.known))
				answer, e := settle.Right(s.l, person, parish, s.day, s.known)
				must(t, answer, e)
				for _, p := range s.l {
					less, e := settle.Without(s.l, p.Source)
					must(t, less, e)
					other, e := settle.Right(less, person, parish, s.day, s.known)
					if must(t, other, e) == answer == slices.Contains(rests, p.Source) {
						t.Fatalf("%+v: right of %d in %d is %d, without %d: %d; rests on %v", s, person, parish, answer, p.Source, other, rests)
					}
				}
			}
		}
	})
}

// TestMovesOnlyWhoIsTouched: P2.5, its second sentence.
func TestMovesOnlyWhoIsTouched(t *testing.T) {
	moves := 0
	scenes(2000, 2, func(s scene) {
		for i, p := range s.count {
			if len(p.Persons) > 1 || len(allReadings(lessOne(s.count, p.Source))) != len(s.readings) {
				continue // several persons, or a reading is won
			}
			touched := slices.Clone(p.Persons)
			for range s.count { // those who were married to them, one after the other
				for j, q := range s.count {
					if i != j && q.Kind == api.PfMarried && slices.Contains(touched, q.Other) {
						touched = append(touched, q.Persons...)
					}
				}
				slices.Sort(touched)
				touched = slices.Compact(touched)
			}
			moved := numbers(t)(settle.Moved(s.l, p.Source, s.day, s.known))
			moves += len(moved)
			for _, person := range moved {
				if !slices.Contains(touched, person) {
					t.Fatalf("%+v: %d moves without %d, which touches %v", s, person, p.Source, touched)
				}
			}
		}
	})
	if moves < 300 {
		t.Error("too few moved:", moves)
	}
}

// answers returns all that is told of proofs as known on a day; sources are those by which somebody may move.
func answers(l []api.Proof, known int, sources []int) []any {
	var all []any
	add := func(x any, e api.Errno) { all = append(all, x, e) }
	add(two(settle.Counting(l, known)))
	add(two(settle.Readings(l, known)))
	add(two(settle.Reading(l, known, 0)))
	add(two(settle.Clash(l, known)))
	add(two(settle.Persons(l, known)))
	for _, day := range list(0, 50, 465, 4166) {
		for parish := range parishes {
			add(two(settle.Belong(l, parish, day, known)))
			add(two(settle.May(l, parish, day, known)))
			add(two(settle.Right(l, 1, parish, day, known)))
			add(two(settle.Rests(l, 2, parish, day, known)))
			add(two(settle.Show(l, 3, parish, day, known, true)))
		}
		for person := 1; person <= lastPerson; person++ {
			add(two(settle.Where(l, person, day, known)))
		}
		for _, source := range sources {
			add(two(settle.Moved(l, source, day, known)))
		}
	}
	return all
}

// TestAsKnown: P2.6.
func TestAsKnown(t *testing.T) {
	r := rand.New(rand.NewSource(5))
	for _, l := range append(randomProofs(150), example()) {
		sources := sourcesOf(l)
		days := append(numbers(t)(settle.Dates(l)), 4167)
		for i := range len(days) - 1 {
			told := answers(l, days[i], sources)
			for _, day := range list(days[i]+1, days[i+1]-1) {
				if day > days[i] && day < days[i+1] && !same(answers(l, day, sources), told) {
					t.Fatalf("%+v: as known on %d not as on %d", l, day, days[i])
				}
			}
			later := randomProof(r, 200)
			later.Known, later.Until = days[i]+1, 0
			more, e := settle.Add(l, later)
			if later.Known > 4166 || e == api.ErrLong {
				continue
			}
			must(t, more, e)
			if !same(answers(more, days[i], sources), told) {
				t.Fatalf("%+v: what becomes known on %d changes what is known on %d", l, later.Known, days[i])
			}
		}
	}
}

func same(a, b []any) bool {
	return slices.EqualFunc(a, b, func(x, y any) bool {
		l, ok := x.([]int)
		k, is := y.([]int)
		if ok && is {
			return slices.Equal(l, k)
		}
		return !ok && !is && x == y
	})
}

// TestRead: P2.7.
func TestRead(t *testing.T) {
	kept := 0
	scenes(500, 2, func(s scene) {
		for i, p := range s.l {
			for at := range p.Persons {
				if len(p.Persons) == 1 {
					continue
				}
				fewer := cloned(s.l)
				fewer[i].Persons = slices.Delete(fewer[i].Persons, at, at+1)
				kept += checkRead(t, s, fewer)
			}
		}
	})
	if kept < 1000 {
		t.Error("too few answers were kept:", kept)
	}
}

// checkRead checks that proofs of fewer persons tell no more readings or parishes, and returns how many answers they kept.
func checkRead(t *testing.T, s scene, fewer []api.Proof) int {
	n, e := settle.Readings(fewer, s.known)
	must(t, n, e)
	for i := range n {
		reading := numbers(t)(settle.Reading(fewer, s.known, i))
		if settle.CheckReading(s.l, s.known, reading) != api.OK {
			t.Fatalf("%+v: %v was no reading before", s, reading)
		}
	}
	kept := 0
	for person := 1; person <= lastPerson && n > 0; person++ {
		before := numbers(t)(settle.Where(s.l, person, s.day, s.known))
		for _, parish := range numbers(t)(settle.Where(fewer, person, s.day, s.known)) {
			if !slices.Contains(before, parish) {
				t.Fatalf("%+v: %d is settled in %d too", s, person, parish)
			}
		}
		for parish := range parishes {
			answer, e := settle.Right(s.l, person, parish, s.day, s.known)
			must(t, answer, e)
			other, e := settle.Right(fewer, person, parish, s.day, s.known)
			if must(t, other, e) != answer && answer != api.Maybe {
				t.Fatalf("%+v: right of %d in %d was %d, is %d", s, person, parish, answer, other)
			}
			if answer != api.Maybe {
				kept++
			}
		}
	}
	return kept
}

// TestInOrder: P2.8.
func TestInOrder(t *testing.T) {
	scenes(600, 4, func(s scene) {
		for _, reading := range s.readings[:min(5, len(s.readings))] {
			for person := 1; person <= lastPerson; person++ {
				titles, e := settle.Titles(s.l, reading, person, s.known)
				must(t, titles, e)
				want := -1
				for i, title := range titles {
					if i > 0 && (titles[i-1].Day > title.Day || titles[i-1].Day == title.Day && titles[i-1].Source >= title.Source) {
						t.Fatalf("%+v: titles of %d: %v", s, person, titles)
					}
					if title.Day <= s.day {
						want = title.Parish
					}
				}
				wantNumber(t, s, want, api.OK)(settle.Settled(s.l, reading, person, s.day, s.known))
			}
		}
	})
}
