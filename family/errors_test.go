package family_test

import (
	"math"
	"reflect"
	"slices"
	"testing"

	"leazing/api"
	"leazing/family"
)

// asked is what a call asks of a kin; not all calls ask all of it.
type asked struct{ person, family, day, known, number int }

// call is a call of a function that takes a kin: which errors it checks for, by a letter for each of its arguments, and what it returns.
type call struct {
	name, takes string
	do          func(k api.Kin, a asked) (any, api.Errno)
}

func two[T any](x T, e api.Errno) (any, api.Errno) { return x, e }

// exampleTimes are true terms of the example, as known from the day 8 on.
func exampleTimes() api.Times {
	return api.Times{
		Stays: []api.Term{{Begin: 0, End: 100}, {Begin: 0, End: 100}, {Begin: 4, End: 95}, {Begin: 45, End: 60}},
		Bonds: []api.Term{{Begin: 25, End: 70}},
		Aways: []api.Term{{Begin: 50, End: 53}, {Begin: 0, End: 100}},
	}
}

// calls are those of all functions that take a kin. What they take: w a person, f a family, d a day, k the day as known on, l a later one.
func calls() []call {
	return []call{
		{"Check", "", func(k api.Kin, a asked) (any, api.Errno) { return nil, family.Check(k) }},
		{"Bonded", "", func(k api.Kin, a asked) (any, api.Errno) {
			return two(family.Bonded(k, api.Bond{Source: a.number, Family: a.family, With: 1, Till: at(a.day)}))
		}},
		{"Dates", "", func(k api.Kin, a asked) (any, api.Errno) { return two(family.Dates(k)) }},
		{"Homes", "wdk", func(k api.Kin, a asked) (any, api.Errno) { return two(family.Homes(k, a.person, a.day, a.known)) }},
		{"Leads", "fdk", func(k api.Kin, a asked) (any, api.Errno) { return two(family.Leads(k, a.family, a.day, a.known)) }},
		{"Families", "wdk", func(k api.Kin, a asked) (any, api.Errno) {
			return two(family.Families(k, a.person, a.day, a.known))
		}},
		{"Gleans", "wdk", func(k api.Kin, a asked) (any, api.Errno) {
			return two(family.Gleans(k, a.person, a.day, a.known))
		}},
		{"For", "wfdk", func(k api.Kin, a asked) (any, api.Errno) {
			return two(family.For(k, a.person, a.family, a.day, a.known))
		}},
		{"Sure", "fdk", func(k api.Kin, a asked) (any, api.Errno) { return two(family.Sure(k, a.family, a.day, a.known)) }},
		{"May", "fdk", func(k api.Kin, a asked) (any, api.Errno) { return two(family.May(k, a.family, a.day, a.known)) }},
		{"Heads", "fdk", func(k api.Kin, a asked) (any, api.Errno) { return two(family.Heads(k, a.family, a.day, a.known)) }},
		{"CheckTimes", "k", func(k api.Kin, a asked) (any, api.Errno) {
			return nil, family.CheckTimes(k, a.known, exampleTimes())
		}},
		{"Truly", "wdk", func(k api.Kin, a asked) (any, api.Errno) {
			return two(family.Truly(k, exampleTimes(), a.person, a.day, a.known))
		}},
		{"Count", "fdk", func(k api.Kin, a asked) (any, api.Errno) {
			return two(family.Count(k, exampleTimes(), a.family, a.day, a.known))
		}},
		{"Show", "wfdk", func(k api.Kin, a asked) (any, api.Errno) {
			return two(family.Show(k, a.person, a.family, a.day, a.known))
		}},
		{"Attain", "fdk", func(k api.Kin, a asked) (any, api.Errno) {
			return two(family.Attain(k, a.family, a.day, a.known, a.number > 0))
		}},
		{"Changed", "dkl", func(k api.Kin, a asked) (any, api.Errno) {
			return two(family.Changed(k, a.day, a.known, a.number))
		}},
		{"Moved", "dk", func(k api.Kin, a asked) (any, api.Errno) {
			return two(family.Moved(k, a.number, a.day, a.known))
		}},
		{"Print", "", func(k api.Kin, a asked) (any, api.Errno) { return two(family.Print(k)) }},
	}
}

func isNoDay(day int) bool { return day < 0 || day > 4166 }

// firstError returns the error of the arguments that a call takes.
func firstError(k api.Kin, a asked, takes string) api.Errno {
	if family.Check(k) != api.OK {
		return api.ErrKin
	}
	for _, c := range takes {
		switch {
		case c == 'w' && (a.person < 1 || a.person > 999):
			return api.ErrPerson
		case c == 'f' && (a.family < 1 || a.family > 99):
			return api.ErrFamily
		case c == 'd' && isNoDay(a.day), c == 'k' && isNoDay(a.known), c == 'l' && isNoDay(a.number):
			return api.ErrDay
		}
	}
	return api.OK
}

// isZero tells whether a result is a zero value; lists in it may be empty.
func isZero(x any) bool {
	switch v := x.(type) {
	case []int:
		return len(v) == 0
	case api.Kin:
		return sameKin(v, api.Kin{})
	case api.Times:
		return len(v.Stays)+len(v.Bonds)+len(v.Aways) == 0
	}
	v := reflect.ValueOf(x)
	return !v.IsValid() || v.IsZero()
}

// TestFirstError: P1 and R1: errors of arguments come in their order, before all others; R2: with an error, other results are zero values.
func TestFirstError(t *testing.T) {
	wrong := example()
	wrong.Aways[1].By = 12
	persons, families := list(math.MinInt, 0, 1, 12, 999, 1000, math.MaxInt), list(math.MinInt, 0, 1, 3, 99, 100, math.MaxInt)
	days := list(math.MinInt, -1, 0, 45, 4166, 4167, math.MaxInt)
	for _, k := range []api.Kin{{}, example(), wrong, many(61, 0, 0, 0)} {
		for _, person := range persons {
			for _, f := range families {
				for i := range len(days) * len(days) * len(days) {
					n := len(days)
					checkCalls(t, k, asked{person, f, days[i%n], days[i/n%n], days[i/n/n]})
				}
			}
		}
	}
}

func checkCalls(t *testing.T, k api.Kin, a asked) {
	for _, c := range calls() {
		got, e := c.do(k, a)
		wantError := firstError(k, a, c.takes)
		shared := slices.Contains([]api.Errno{api.ErrKin, api.ErrPerson, api.ErrFamily, api.ErrDay}, e)
		if wantError != api.OK && e != wantError || wantError == api.OK && shared {
			t.Fatalf("%s, %+v: error %d, want %d", c.name, a, e, wantError)
		}
		if e != api.OK && !isZero(got) {
			t.Fatalf("%s, %+v: %v beside the error %d", c.name, a, got, e)
		}
	}
}

// TestOwnErrors: the errors of functions that need a source, or true terms, or such as there are.
func TestOwnErrors(t *testing.T) {
	k := example()
	for name, wantError := range map[string]api.Errno{
		"Check": api.OK, "Bonded": api.ErrBond, "Dates": api.OK, "Homes": api.OK, "Leads": api.OK, "Families": api.OK, "Gleans": api.OK, "For": api.OK,
		"Sure": api.OK, "May": api.OK, "Heads": api.OK, "CheckTimes": api.ErrTimes, "Truly": api.ErrTimes, "Count": api.ErrTimes,
		"Show": api.ErrNone, "Attain": api.OK, "Changed": api.OK, "Moved": api.ErrNone, "Print": api.OK,
	} {
		for _, c := range calls() {
			if c.name != name {
				continue
			}
			if _, e := c.do(k, asked{12, 1, 45, 7, 99}); e != wantError {
				t.Errorf("%s: error %d, want %d", name, e, wantError)
			}
		}
	}
	for _, source := range list(math.MinInt, -1, 0, 5, 21, 100000, math.MaxInt) {
		wantList(t, "moved by none", nil, api.ErrNone)(family.Moved(k, source, 0, 0))
	}
	wantList(t, "moved by one that does not count", nil, api.OK)(family.Moved(k, 20, 35, 7))
	wantList(t, "moved by an offence that does not count", nil, api.OK)(family.Moved(k, 40, 10, 4))
}

// TestMemory: R4: results share no memory with arguments, or with each other, and arguments are not changed.
func TestMemory(t *testing.T) {
	for _, a := range []asked{{12, 3, 45, 9, 20}, {10, 3, 45, 9, 1}, {11, 7, 50, 9, 0}, {12, 5, 25, 9, 50}, {12, 3, 25, 9, 50}} {
		for _, c := range calls() {
			k := example()
			first, e := c.do(k, a)
			if !sameKin(k, example()) {
				t.Errorf("%s changes its argument", c.name)
			}
			spoil(first)
			if !sameKin(k, example()) {
				t.Errorf("%s returns memory of its argument", c.name)
			}
			again, f := c.do(k, a)
			fresh, _ := c.do(example(), a)
			if e != f || !reflect.DeepEqual(again, fresh) {
				t.Errorf("%s: %v, then %v", c.name, fresh, again)
			}
		}
	}
	both := example()
	for _, most := range []bool{true, false} {
		one, _ := family.Attain(both, 3, 45, 9, most)
		other, _ := family.Attain(both, 3, 45, 9, most)
		spoil(api.Times{Stays: one.Stays})
		spoil(api.Times{Aways: one.Aways})
		if !slices.Equal(one.Bonds, other.Bonds) {
			t.Error("lists of true terms share memory")
		}
	}
	terms := exampleTimes()
	family.CheckTimes(example(), 9, terms)
	family.Truly(example(), terms, 12, 45, 9)
	family.Count(example(), terms, 3, 45, 9)
	if !reflect.DeepEqual(terms, exampleTimes()) {
		t.Error("true terms were changed:", terms)
	}
}

// spoil changes all that a result has, beyond its lists too.
func spoil(x any) {
	switch v := x.(type) {
	case []int:
		clear(v[:cap(v)])
	case api.Kin:
		clear(v.Stays[:cap(v.Stays)])
		clear(v.Bonds[:cap(v.Bonds)])
		clear(v.Aways[:cap(v.Aways)])
		clear(v.Offences[:cap(v.Offences)])
	case api.Times:
		clear(v.Stays[:cap(v.Stays)])
		clear(v.Bonds[:cap(v.Bonds)])
		clear(v.Aways[:cap(v.Aways)])
	}
}

// TestNilAndEmpty: R3.
func TestNilAndEmpty(t *testing.T) {
	empty := api.Kin{Stays: []api.Stay{}, Bonds: []api.Bond{}, Aways: []api.Away{}, Offences: []api.Offence{}}
	for _, k := range []api.Kin{{}, empty} {
		for _, terms := range []api.Times{{}, {Stays: []api.Term{}, Bonds: []api.Term{}, Aways: []api.Term{}}} {
			if e := family.CheckTimes(k, 4166, terms); e != api.OK {
				t.Error(e)
			}
			want(t, "truly", 0, api.OK)(family.Truly(k, terms, 1, 0, 0))
			wantList(t, "count", nil, api.OK)(family.Count(k, terms, 1, 0, 0))
		}
		wantList(t, "homes", list(0), api.OK)(family.Homes(k, 999, 0, 0))
		wantList(t, "leads", list(99), api.OK)(family.Leads(k, 99, 4166, 0))
		wantList(t, "families", list(0), api.OK)(family.Families(k, 1, 0, 4166))
		want(t, "gleans", api.No, api.OK)(family.Gleans(k, 1, 0, 0))
		want(t, "for", api.No, api.OK)(family.For(k, 1, 1, 0, 0))
		wantList(t, "sure", nil, api.OK)(family.Sure(k, 1, 0, 0))
		wantList(t, "may", nil, api.OK)(family.May(k, 1, 0, 0))
		want(t, "heads", api.Range{}, api.OK)(family.Heads(k, 1, 0, 0))
		wantList(t, "changed", nil, api.OK)(family.Changed(k, 0, 0, 1))
		wantList(t, "moved", nil, api.ErrNone)(family.Moved(k, 1, 0, 0))
		want(t, "print", "", api.OK)(family.Print(k))
		for _, most := range []bool{true, false} {
			if terms, e := family.Attain(k, 1, 0, 0, most); e != api.OK || !isZero(terms) {
				t.Error(terms, e)
			}
		}
		if terms, e := family.Show(k, 1, 1, 0, 0); e != api.ErrNone || !isZero(terms) {
			t.Error(terms, e)
		}
	}
}
