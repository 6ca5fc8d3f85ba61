package settle_test

import (
	"math"
	"reflect"
	"slices"
	"testing"

	"leazing/api"
	"leazing/settle"
)

// asked is what a call asks of proofs; not all calls ask all of it.
type asked struct{ person, parish, day, known, number int }

// call is a call of a function that takes proofs: which errors it checks for, by a letter for each of its arguments, and what it returns.
type call struct {
	name, takes string
	do          func(l []api.Proof, a asked) (any, api.Errno)
}

func two[T any](x T, e api.Errno) (any, api.Errno) { return x, e }

// calls are those of all functions that take proofs. What they take: w a person, p a parish, d a day, k the day as known on.
func calls() []call {
	reading := list(5, 6, 5, 7)
	return []call{
		{"Check", "", func(l []api.Proof, a asked) (any, api.Errno) { return nil, settle.Check(l) }},
		{"Add", "", func(l []api.Proof, a asked) (any, api.Errno) {
			return two(settle.Add(l, api.Proof{Source: a.number, Kind: a.parish, Persons: list(a.person), Day: a.day, Known: a.known}))
		}},
		{"Without", "", func(l []api.Proof, a asked) (any, api.Errno) { return two(settle.Without(l, a.number)) }},
		{"Dates", "", func(l []api.Proof, a asked) (any, api.Errno) { return two(settle.Dates(l)) }},
		{"Counting", "k", func(l []api.Proof, a asked) (any, api.Errno) { return two(settle.Counting(l, a.known)) }},
		{"CheckReading", "k", func(l []api.Proof, a asked) (any, api.Errno) {
			return nil, settle.CheckReading(l, a.known, list(a.number, a.person))
		}},
		{"Readings", "k", func(l []api.Proof, a asked) (any, api.Errno) { return two(settle.Readings(l, a.known)) }},
		{"Reading", "k", func(l []api.Proof, a asked) (any, api.Errno) { return two(settle.Reading(l, a.known, a.number)) }},
		{"Clash", "k", func(l []api.Proof, a asked) (any, api.Errno) { return two(settle.Clash(l, a.known)) }},
		{"CheckClash", "k", func(l []api.Proof, a asked) (any, api.Errno) {
			return nil, settle.CheckClash(l, a.known, list(a.number, a.person))
		}},
		{"Titles", "wk", func(l []api.Proof, a asked) (any, api.Errno) {
			return two(settle.Titles(l, reading, a.person, a.known))
		}},
		{"Settled", "wdk", func(l []api.Proof, a asked) (any, api.Errno) {
			return two(settle.Settled(l, reading, a.person, a.day, a.known))
		}},
		{"Where", "wdk", func(l []api.Proof, a asked) (any, api.Errno) { return two(settle.Where(l, a.person, a.day, a.known)) }},
		{"Right", "wpdk", func(l []api.Proof, a asked) (any, api.Errno) {
			return two(settle.Right(l, a.person, a.parish, a.day, a.known))
		}},
		{"Show", "wpdk", func(l []api.Proof, a asked) (any, api.Errno) {
			return two(settle.Show(l, a.person, a.parish, a.day, a.known, a.number > 0))
		}},
		{"Persons", "k", func(l []api.Proof, a asked) (any, api.Errno) { return two(settle.Persons(l, a.known)) }},
		{"Belong", "pdk", func(l []api.Proof, a asked) (any, api.Errno) {
			return two(settle.Belong(l, a.parish, a.day, a.known))
		}},
		{"May", "pdk", func(l []api.Proof, a asked) (any, api.Errno) { return two(settle.May(l, a.parish, a.day, a.known)) }},
		{"Rests", "wpdk", func(l []api.Proof, a asked) (any, api.Errno) {
			return two(settle.Rests(l, a.person, a.parish, a.day, a.known))
		}},
		{"Moved", "dk", func(l []api.Proof, a asked) (any, api.Errno) {
			return two(settle.Moved(l, a.number, a.day, a.known))
		}},
	}
}

func isZero(x any) bool {
	v := reflect.ValueOf(x)
	return !v.IsValid() || v.IsZero() || v.Kind() == reflect.Slice && v.Len() == 0
}

// firstError returns the error of the arguments that a call takes.
func firstError(l []api.Proof, a asked, takes string) api.Errno {
	if settle.Check(l) != api.OK {
		return api.ErrProofs
	}
	for _, c := range takes {
		switch {
		case c == 'w' && (a.person < 1 || a.person > 999):
			return api.ErrWho
		case c == 'p' && (a.parish < 0 || a.parish > 5):
			return api.ErrWhere
		case c == 'd' && (a.day < 0 || a.day > 4166), c == 'k' && (a.known < 0 || a.known > 4166):
			return api.ErrDay
		}
	}
	return api.OK
}

// unread returns proofs of which there is no reading, from the day 20 on.
func unread() []api.Proof {
	l := example()
	return append(l, api.Proof{Source: 7, Kind: api.PfBirth, Persons: list(5), Parish: 5, Day: 1, Known: 20})
}

// TestFirstError: P1 and R1: errors of arguments come in their order, before all others; R2: with an error, other results are zero values.
func TestFirstError(t *testing.T) {
	wrong := example()
	wrong[2].Through = 1
	persons, parishes := list(math.MinInt, -1, 0, 1, 5, 7, 999, 1000, math.MaxInt), list(math.MinInt, -1, 0, 2, 5, 6, math.MaxInt)
	days := list(math.MinInt, -1, 0, 500, 4166, 4167, math.MaxInt)
	numbers := list(math.MinInt, -1, 0, 3, math.MaxInt)
	for _, l := range [][]api.Proof{nil, example(), wrong, unread(), many(61)} {
		for _, person := range persons {
			for _, parish := range parishes {
				for i := range len(days) * len(days) * len(numbers) {
					n := len(days)
					checkCalls(t, l, asked{person, parish, days[i%n], days[i/n%n], numbers[i/n/n]})
				}
			}
		}
	}
}

func checkCalls(t *testing.T, l []api.Proof, a asked) {
	for _, c := range calls() {
		got, e := c.do(l, a)
		want := firstError(l, a, c.takes)
		shared := e == api.ErrProofs || e == api.ErrWho || e == api.ErrWhere || e == api.ErrDay
		if want != api.OK && e != want || want == api.OK && shared {
			t.Fatalf("%s, %+v: error %d, want %d", c.name, a, e, want)
		}
		if e != api.OK && !isZero(got) {
			t.Fatalf("%s, %+v: %v beside the error %d", c.name, a, got, e)
		}
	}
}

// TestOwnErrors: the errors of functions that require a reading, or a source, or a number.
func TestOwnErrors(t *testing.T) {
	l := unread()
	for name, want := range map[string]api.Errno{
		"Check": api.OK, "Add": api.OK, "Without": api.ErrNone, "Dates": api.OK, "Counting": api.OK, "CheckReading": api.ErrReading, "Readings": api.OK,
		"Reading": api.ErrNone, "Clash": api.OK, "CheckClash": api.ErrRead, "Titles": api.ErrReading, "Settled": api.ErrReading, "Where": api.ErrUnread,
		"Right": api.ErrUnread, "Show": api.ErrUnread, "Persons": api.OK, "Belong": api.ErrUnread, "May": api.ErrUnread, "Rests": api.ErrUnread, "Moved": api.ErrNone,
	} {
		for _, c := range calls() {
			if c.name != name {
				continue
			}
			if _, e := c.do(l, asked{5, 1, 500, 20, 9}); e != want {
				t.Errorf("%s: error %d, want %d", name, e, want)
			}
		}
	}
	for _, settled := range []bool{false, true} {
		wantList(t, "show without a reading", nil, api.ErrUnread)(settle.Show(l, 5, 5, 500, 20, settled))
	}
	wantList(t, "show, where none is", nil, api.ErrNone)(settle.Show(l, 5, 2, 500, 0, false))
	wantList(t, "clash, where there is a reading", nil, api.ErrRead)(settle.Clash(l, 19))
	wantList(t, "clash of nothing", nil, api.ErrRead)(settle.Clash(nil, 0))
	wantList(t, "moved by none", nil, api.ErrNone)(settle.Moved(l, 8, 0, 0))
	wantList(t, "moved by one that does not count", nil, api.OK)(settle.Moved(l, 7, 0, 0))
	wantList(t, "the reading -1", nil, api.ErrNone)(settle.Reading(l, 0, -1))
	wantList(t, "the reading 1 of 1", nil, api.ErrNone)(settle.Reading(l, 0, 1))
}

// TestMemory: R4: results share no memory with arguments, or with each other, and arguments are not changed.
func TestMemory(t *testing.T) {
	for i, c := range slices.Repeat(calls(), 4) {
		l := example()
		a := asked{7, 2, 600, 610, i / len(calls())}
		first, e := c.do(l, a)
		if !equalProofs(l, example()) {
			t.Errorf("%s changes its argument", c.name)
		}
		spoil(first)
		if !equalProofs(l, example()) {
			t.Errorf("%s returns memory of its argument", c.name)
		}
		again, f := c.do(l, a)
		fresh, _ := c.do(example(), a)
		if e != f || !reflect.DeepEqual(again, fresh) {
			t.Errorf("%s: %v, then %v", c.name, fresh, again)
		}
	}
	persons := list(8, 9)
	got, e := settle.Add(nil, api.Proof{Source: 1, Kind: api.PfBirth, Persons: persons})
	if e != api.OK {
		t.Fatal(e)
	}
	got[0].Persons[0] = 1
	if persons[0] != 8 {
		t.Error("Add returns the persons of its argument")
	}
	reading, want := list(5, 6, 5, 7), list(5, 6, 5, 7)
	settle.CheckReading(example(), 0, reading)
	settle.Titles(example(), reading, 5, 0)
	settle.CheckClash(example(), 0, reading)
	if !reflect.DeepEqual(reading, want) {
		t.Error("a reading was changed:", reading)
	}
}

// spoil changes all that a result has.
func spoil(x any) {
	switch l := x.(type) {
	case []int:
		for i := range l {
			l[i] = -77
		}
	case []api.Title:
		clear(l)
	case []api.Proof:
		for i := range l {
			for j := range l[i].Persons {
				l[i].Persons[j] = -77
			}
		}
		clear(l)
	}
}

// TestNilAndEmpty: R3.
func TestNilAndEmpty(t *testing.T) {
	for _, l := range [][]api.Proof{nil, {}} {
		for _, empty := range [][]int{nil, {}} {
			if e := settle.CheckReading(l, 0, empty); e != api.OK {
				t.Error(e)
			}
			if e := settle.CheckClash(l, 0, empty); e != api.ErrRead {
				t.Error(e)
			}
			if got, e := settle.Titles(l, empty, 1, 0); e != api.OK || len(got) != 0 {
				t.Error(got, e)
			}
			wantNumber(t, "settled", -1, api.OK)(settle.Settled(l, empty, 1, 4166, 0))
		}
		wantNumber(t, "readings of nothing", 1, api.OK)(settle.Readings(l, 4166))
		wantList(t, "reading of nothing", nil, api.OK)(settle.Reading(l, 0, 0))
		wantList(t, "second reading of nothing", nil, api.ErrNone)(settle.Reading(l, 0, 1))
		wantList(t, "where", list(-1), api.OK)(settle.Where(l, 999, 0, 0))
		wantNumber(t, "right", api.No, api.OK)(settle.Right(l, 1, 0, 0, 0))
		wantList(t, "show", nil, api.OK)(settle.Show(l, 1, 0, 0, 0, false))
		wantList(t, "show settled", nil, api.ErrNone)(settle.Show(l, 1, 0, 0, 0, true))
		for _, got := range []func() ([]int, api.Errno){
			func() ([]int, api.Errno) { return settle.Persons(l, 0) },
			func() ([]int, api.Errno) { return settle.Belong(l, 0, 0, 0) },
			func() ([]int, api.Errno) { return settle.May(l, 0, 0, 0) },
			func() ([]int, api.Errno) { return settle.Rests(l, 1, 0, 0, 0) },
		} {
			wantList(t, "of nothing", nil, api.OK)(got())
		}
	}
}
