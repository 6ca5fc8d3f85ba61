package settle_test

import (
	"slices"
	"testing"

	"leazing/api"
	"leazing/settle"
)

// example is the proofs L of the chapter's examples.
func example() []api.Proof {
	return []api.Proof{
		{Source: 1, Kind: api.PfBirth, Persons: []int{5, 6}, Parish: 0, Day: 10},
		{Source: 2, Kind: api.PfBirth, Persons: []int{6}, Parish: 1, Day: 30},
		{Source: 3, Kind: api.PfService, Persons: []int{5}, Parish: 2, Day: 100, Through: 464},
		{Source: 4, Kind: api.PfMarried, Persons: []int{7}, Other: 5, Day: 500},
		{Source: 5, Kind: api.PfRemoved, Persons: []int{5, 7}, Parish: 3, Day: 600, Known: 610, Until: 700},
		{Source: 6, Kind: api.PfExamined, Persons: []int{5, 6}, Parish: 4, Day: 200, Known: 650},
	}
}

func list(numbers ...int) []int { return numbers }

// wantList wants a list without an error, or an error with an empty list.
func wantList(t *testing.T, what any, want []int, wantError api.Errno) func([]int, api.Errno) {
	return func(got []int, e api.Errno) {
		t.Helper()
		if e != wantError || !slices.Equal(got, want) {
			t.Errorf("%v: %v, error %d, want %v, error %d", what, got, e, want, wantError)
		}
	}
}

func wantNumber(t *testing.T, what any, want int, wantError api.Errno) func(int, api.Errno) {
	return func(got int, e api.Errno) {
		t.Helper()
		if e != wantError || got != want {
			t.Errorf("%v: %d, error %d, want %d, error %d", what, got, e, want, wantError)
		}
	}
}

func TestExampleReadings(t *testing.T) {
	l := example()
	wantList(t, "counting 0", list(1, 2, 3, 4), api.OK)(settle.Counting(l, 0))
	wantList(t, "counting 650", list(1, 2, 3, 4, 5, 6), api.OK)(settle.Counting(l, 650))
	wantList(t, "counting 700", list(1, 2, 3, 4, 6), api.OK)(settle.Counting(l, 700))
	wantNumber(t, "readings 0", 1, api.OK)(settle.Readings(l, 0))
	wantList(t, "reading 0", list(5, 6, 5, 7), api.OK)(settle.Reading(l, 0, 0))
	wantNumber(t, "readings 610", 2, api.OK)(settle.Readings(l, 610))
	wantList(t, "first of 610", list(5, 6, 5, 7, 5), api.OK)(settle.Reading(l, 610, 0))
	wantList(t, "second of 610", list(5, 6, 5, 7, 7), api.OK)(settle.Reading(l, 610, 1))
	wantNumber(t, "readings 650", 2, api.OK)(settle.Readings(l, 650))
	for n := range 2 {
		reading, _ := settle.Reading(l, 650, n)
		if len(reading) != 6 || reading[5] != 6 {
			t.Error("6 was seen in 4:", reading)
		}
	}
}

func TestExampleTitles(t *testing.T) {
	l, reading := example(), list(5, 6, 5, 7)
	for person, want := range map[int][]api.Title{
		5: {{Day: 10, Parish: 0, Source: 1}, {Day: 465, Parish: 2, Source: 3}},
		7: {{Day: 500, Parish: 2, Source: 4}},
	} {
		if got, e := settle.Titles(l, reading, person, 0); e != api.OK || !slices.Equal(got, want) {
			t.Error(person, got, e)
		}
	}
	for day, want := range map[int]int{9: -1, 464: 0, 465: 2} {
		wantNumber(t, day, want, api.OK)(settle.Settled(l, reading, 5, day, 0))
	}
}

func TestExampleRights(t *testing.T) {
	l := example()
	wantList(t, "where on 600", list(2, 3), api.OK)(settle.Where(l, 7, 600, 610))
	wantList(t, "where on 599", list(2), api.OK)(settle.Where(l, 7, 599, 610))
	wantNumber(t, "right in 2", api.Maybe, api.OK)(settle.Right(l, 7, 2, 600, 610))
	wantNumber(t, "right in 3", api.Maybe, api.OK)(settle.Right(l, 7, 3, 600, 610))
	wantNumber(t, "right, quashed", api.Yes, api.OK)(settle.Right(l, 7, 2, 600, 700))
	wantList(t, "show 3", list(5, 6, 5, 7, 7), api.OK)(settle.Show(l, 7, 3, 600, 610, true))
	wantList(t, "show 0", nil, api.ErrNone)(settle.Show(l, 7, 0, 600, 610, true))
	wantList(t, "belong", list(5, 7), api.OK)(settle.Belong(l, 2, 500, 0))
	wantList(t, "may", list(5, 7), api.OK)(settle.May(l, 3, 600, 610))
	wantList(t, "rests", list(3, 4), api.OK)(settle.Rests(l, 7, 2, 500, 0))
	wantList(t, "moved", list(5, 7), api.OK)(settle.Moved(l, 3, 500, 0))
}

func TestExampleClash(t *testing.T) {
	less, e := settle.Without(example(), 2)
	if e != api.OK {
		t.Fatal(e)
	}
	wantNumber(t, "readings without 2", 2, api.OK)(settle.Readings(less, 0))
	wantList(t, "first", list(5, 5, 7), api.OK)(settle.Reading(less, 0, 0))
	wantList(t, "second", list(6, 5, 7), api.OK)(settle.Reading(less, 0, 1))
	more, e := settle.Add(example(), api.Proof{Source: 7, Kind: api.PfBirth, Persons: list(5), Parish: 5, Day: 1})
	if e != api.OK {
		t.Fatal(e)
	}
	wantNumber(t, "readings with 7", 0, api.OK)(settle.Readings(more, 0))
	wantList(t, "clash", list(1, 2, 7), api.OK)(settle.Clash(more, 0))
}
