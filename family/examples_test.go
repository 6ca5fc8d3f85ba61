package family_test

import (
	"slices"
	"testing"

	"leazing/api"
	"leazing/family"
)

func at(n int) api.Range { return api.Range{Lo: n, Hi: n} }

func from(lo, hi int) api.Range { return api.Range{Lo: lo, Hi: hi} }

func list(numbers ...int) []int { return numbers }

// example is the kin K of the chapter's examples.
func example() api.Kin {
	return api.Kin{
		Stays: []api.Stay{
			{Source: 1, Person: 10, Family: 3, Till: at(100)},
			{Source: 2, Person: 11, Family: 3, Till: at(100)},
			{Source: 3, Person: 12, Family: 5, From: from(0, 10), Till: from(90, 100)},
			{Source: 4, Person: 11, Family: 7, From: from(40, 50), Till: at(60)},
		},
		Bonds: []api.Bond{{Source: 20, Family: 5, With: 3, From: from(20, 30), Till: at(70), Known: 8}},
		Aways: []api.Away{
			{Source: 30, Person: 10, From: at(50), Till: from(52, 55)},
			{Source: 31, Person: 12, By: 10, Till: at(100)},
		},
		Offences: []api.Offence{{Source: 40, Person: 11, Day: 9, Known: 5}},
	}
}

// wantList wants a list without an error, or an error with an empty list.
func wantList(t *testing.T, what any, want []int, wantError api.Errno) func([]int, api.Errno) {
	return func(got []int, e api.Errno) {
		t.Helper()
		if e != wantError || !slices.Equal(got, want) {
			t.Errorf("%+v: %v, error %d, want %v, error %d", what, got, e, want, wantError)
		}
	}
}

// want wants a value and an error.
func want[T comparable](t *testing.T, what any, want T, wantError api.Errno) func(T, api.Errno) {
	return func(got T, e api.Errno) {
		t.Helper()
		if e != wantError || got != want {
			t.Errorf("%+v: %v, error %d, want %v, error %d", what, got, e, want, wantError)
		}
	}
}

func TestExampleHomesAndLeads(t *testing.T) {
	k := example()
	wantList(t, "homes", list(3), api.OK)(family.Homes(k, 11, 30, 9))
	wantList(t, "homes", list(3, 7), api.OK)(family.Homes(k, 11, 45, 9))
	wantList(t, "homes", list(7), api.OK)(family.Homes(k, 11, 55, 9))
	wantList(t, "homes", list(0, 5), api.OK)(family.Homes(k, 12, 5, 9))
	wantList(t, "leads", list(3, 5), api.OK)(family.Leads(k, 5, 25, 9))
	wantList(t, "leads", list(5), api.OK)(family.Leads(k, 5, 25, 7))
	wantList(t, "leads", list(3), api.OK)(family.Leads(k, 5, 35, 9))
}

func TestExampleFamilies(t *testing.T) {
	k := example()
	wantList(t, "families", list(3, 5), api.OK)(family.Families(k, 12, 25, 9))
	wantList(t, "families", list(3), api.OK)(family.Families(k, 12, 35, 9))
	wantList(t, "families", list(0), api.OK)(family.Families(k, 12, 51, 9))
	want(t, "gleans", api.No, api.OK)(family.Gleans(k, 10, 51, 9))
	want(t, "gleans", api.Maybe, api.OK)(family.Gleans(k, 10, 53, 9))
	want(t, "gleans", api.Maybe, api.OK)(family.Gleans(k, 12, 53, 9))
	want(t, "gleans", api.No, api.OK)(family.Gleans(k, 11, 10, 9))
	want(t, "gleans", api.Yes, api.OK)(family.Gleans(k, 11, 10, 4))
	want(t, "for", api.Maybe, api.OK)(family.For(k, 11, 3, 45, 9))
	want(t, "for", api.Yes, api.OK)(family.For(k, 11, 7, 55, 9))
}

func TestExampleHeads(t *testing.T) {
	k := example()
	wantList(t, "sure", list(10, 11, 12), api.OK)(family.Sure(k, 3, 35, 9))
	wantList(t, "may", list(10, 11, 12), api.OK)(family.May(k, 3, 45, 9))
	want(t, "heads", from(2, 3), api.OK)(family.Heads(k, 3, 45, 9))
	want(t, "heads", from(0, 2), api.OK)(family.Heads(k, 3, 53, 9))
	want(t, "heads", from(1, 1), api.OK)(family.Heads(k, 7, 53, 9))
	want(t, "heads", from(0, 1), api.OK)(family.Heads(k, 5, 25, 9))
	want(t, "heads", from(2, 3), api.OK)(family.Heads(k, 3, 25, 9))
}

func TestExampleMoved(t *testing.T) {
	k := example()
	wantList(t, "moved", list(12), api.OK)(family.Moved(k, 20, 35, 9))
	wantList(t, "moved", list(10, 12), api.OK)(family.Moved(k, 30, 53, 9))
	wantList(t, "moved", list(11), api.OK)(family.Moved(k, 40, 10, 9))
	wantList(t, "changed", list(11), api.OK)(family.Changed(k, 10, 4, 9))
	wantList(t, "changed", list(12), api.OK)(family.Changed(k, 35, 4, 9))
	wantList(t, "dates", list(0, 5, 8), api.OK)(family.Dates(k))
}
