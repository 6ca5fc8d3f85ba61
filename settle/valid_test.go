package settle_test

import (
	"math"
	"slices"
	"testing"

	"leazing/api"
	"leazing/settle"
)

// P2.1: what is valid, each limit at its edge and beyond it; and lists with one more, or without one.

// edges has numbers around the limits of a range, and whether they are within it.
func edges(lo, hi int) map[int]bool {
	return map[int]bool{lo: true, hi: true, lo - 1: false, hi + 1: false, math.MinInt: false, math.MaxInt: false}
}

func proofOf(kind int) api.Proof {
	p := api.Proof{Source: 1, Kind: kind, Persons: list(3, 4)}
	if kind == api.PfMarried {
		p.Other = 5
	}
	return p
}

func lasting(kind int) bool { return has(kind, api.PfService, api.PfRent, api.PfBound) }

// checkProof wants a proof to be valid, or not, alone and in a list.
func checkProof(t *testing.T, p api.Proof, valid bool) {
	t.Helper()
	alone, listed := api.OK, api.OK
	if !valid {
		alone, listed = api.ErrProof, api.ErrProofs
	}
	if e := settle.CheckProof(p); e != alone {
		t.Errorf("%+v: error %d, want %d", p, e, alone)
	}
	if e := settle.Check([]api.Proof{p}); e != listed {
		t.Errorf("%+v in a list: error %d, want %d", p, e, listed)
	}
	if _, e := settle.Add(nil, p); e != alone {
		t.Errorf("Add %+v: error %d, want %d", p, e, alone)
	}
}

func TestCheckNumbers(t *testing.T) {
	for n, valid := range edges(1, 99999) {
		p := proofOf(api.PfBirth)
		p.Source = n
		checkProof(t, p, valid)
	}
	for n, valid := range edges(1, 8) {
		p := proofOf(n)
		checkProof(t, p, valid)
	}
	for n, valid := range edges(1, 999) {
		p := proofOf(api.PfMarried)
		p.Other = n
		checkProof(t, p, valid)
		p = proofOf(api.PfBirth)
		p.Persons = list(n)
		checkProof(t, p, valid)
	}
	for kind := api.PfBirth; kind <= api.PfExamined; kind++ {
		for n, valid := range edges(0, 5) {
			p := proofOf(kind)
			p.Parish = n
			checkProof(t, p, valid && kind != api.PfMarried || n == 0)
		}
		for _, n := range []int{-1, 0, 1, 999} {
			p := proofOf(kind)
			p.Other = n
			checkProof(t, p, (kind == api.PfMarried) == (n > 0) && n >= 0)
		}
	}
}

func TestCheckPersons(t *testing.T) {
	for _, c := range []struct {
		persons []int
		valid   bool
	}{
		{nil, false}, {list(), false}, {list(1), true}, {list(1, 2, 3, 999), true}, {list(996, 997, 998, 999), true}, {list(1, 2, 3, 4, 5), false},
		{list(2, 2), false}, {list(3, 2), false}, {list(1, 3, 2), false}, {list(1, 2, 2), false}, {list(0, 1), false}, {list(1, 1000), false}, {list(-1), false},
		{make([]int, 1000000), false},
	} {
		for kind := api.PfBirth; kind <= api.PfExamined; kind++ {
			p := proofOf(kind)
			p.Persons = c.persons
			checkProof(t, p, c.valid)
		}
	}
	p := proofOf(api.PfMarried)
	p.Persons = list(5)
	checkProof(t, p, true) // Other may be among Persons
}

func TestCheckDays(t *testing.T) {
	for kind := api.PfBirth; kind <= api.PfExamined; kind++ {
		for n, valid := range edges(0, 4166) {
			p := proofOf(kind)
			p.Day = n
			if lasting(kind) {
				p.Through = 4166
			}
			checkProof(t, p, valid)
			p = proofOf(kind)
			p.Through = n
			checkProof(t, p, valid && lasting(kind) || n == 0)
			p = proofOf(kind)
			p.Known = n
			checkProof(t, p, valid)
		}
		for through, valid := range map[int]bool{0: false, 99: false, 100: true, 101: true, 4166: true, 4167: false} {
			p := proofOf(kind)
			p.Day, p.Through = 100, through
			checkProof(t, p, valid && lasting(kind) || through == 0 && !lasting(kind))
		}
		for until, valid := range map[int]bool{0: true, -1: false, 1: false, 99: false, 100: false, 101: true, 4166: true, 4167: false, math.MinInt: false, math.MaxInt: false} {
			p := proofOf(kind)
			p.Known, p.Until = 100, until
			checkProof(t, p, valid)
		}
	}
	p := proofOf(api.PfBirth)
	p.Known, p.Until = 4166, 0
	checkProof(t, p, true)
	p.Until = 4166
	checkProof(t, p, false)
	p.Known, p.Until = 0, -5
	checkProof(t, p, false)
}

// many returns n proofs, the first ones of which are of so many persons.
func many(n int, persons ...int) []api.Proof {
	var l []api.Proof
	for i := range n {
		p := api.Proof{Source: 2*i + 2, Kind: api.PfExamined, Persons: list(1)}
		if i < len(persons) {
			p.Persons = list(1, 2, 3, 4)[:persons[i]]
		}
		l = append(l, p)
	}
	return l
}

func TestCheck(t *testing.T) {
	check := func(l []api.Proof, want api.Errno) {
		t.Helper()
		if e := settle.Check(l); e != want {
			t.Errorf("%d proofs: error %d, want %d", len(l), e, want)
		}
	}
	check(nil, api.OK)
	check([]api.Proof{}, api.OK)
	check(example(), api.OK)
	check(many(60), api.OK)
	check(many(61), api.ErrProofs)
	check(make([]api.Proof, 1000000), api.ErrProofs)
	check(many(60, 2, 3, 3, 2, 3, 3, 2, 3), api.OK) // 1944
	check(many(60, 4, 4, 4, 4, 4), api.OK)          // 1024
	check(many(6, 4, 4, 4, 4, 4, 2), api.ErrProofs) // 2048
	check(many(7, 3, 3, 3, 3, 3, 3, 3), api.ErrProofs)
	check(many(60, slices.Repeat(list(4), 60)...), api.ErrProofs) // 2 to the 120
	ended := many(6, 4, 4, 4, 4, 4, 2)
	ended[0].Until = 1
	check(ended, api.ErrProofs) // those that do not count are multiplied too
	for _, source := range []int{2, 4, 6} {
		l := many(4)
		l[3].Source = source
		check(l, api.ErrProofs)
	}
	last := many(3)
	last[2].Kind = 9
	check(last, api.ErrProofs)
}

func TestAdd(t *testing.T) {
	add := func(l []api.Proof, source, persons int, want api.Errno, wantSources ...int) {
		t.Helper()
		p := api.Proof{Source: source, Kind: api.PfBirth, Persons: list(1, 2, 3, 4)[:persons], Parish: 3, Day: 7, Known: 2, Until: 9}
		got, e := settle.Add(l, p)
		if e != want || !slices.Equal(sourcesOf(got), wantSources) {
			t.Errorf("Add %d: %v, error %d, want %v, error %d", source, sourcesOf(got), e, wantSources, want)
		}
		for _, q := range got {
			if q.Source == source && !equalProofs([]api.Proof{q}, []api.Proof{p}) {
				t.Errorf("Add %+v: %+v", p, q)
			}
		}
		if e == api.OK && !equalProofs(lessOne(got, source), l) {
			t.Error("other proofs:", got)
		}
	}
	add(nil, 99999, 4, api.OK, 99999)
	add(many(3), 1, 1, api.OK, 1, 2, 4, 6)
	add(many(3), 3, 2, api.OK, 2, 3, 4, 6)
	add(many(3), 5, 3, api.OK, 2, 4, 5, 6)
	add(many(3), 7, 4, api.OK, 2, 4, 6, 7)
	for _, source := range []int{2, 4, 6} {
		add(many(3), source, 1, api.ErrTwice)
	}
	add(many(3), 0, 1, api.ErrProof)
	add(many(3), 2, 0, api.ErrProof) // named before ErrTwice
	add(many(61), 0, 0, api.ErrProofs)
	add(many(60), 2, 1, api.ErrTwice) // named before ErrLong
	add(many(60), 3, 1, api.ErrLong)
	add(many(6, 4, 4, 4, 4, 4), 3, 2, api.ErrLong)
	add(many(6, 3, 3, 3, 3, 3, 2), 30, 4, api.OK, 2, 4, 6, 8, 10, 12, 30)
	add(many(6, 3, 3, 3, 3, 3, 3), 30, 3, api.ErrLong)
	if got, e := settle.Add(many(59), proofOf(api.PfBirth)); e != api.OK || len(got) != 60 {
		t.Error(len(got), e)
	}
}

func TestWithout(t *testing.T) {
	for _, l := range randomProofs(200) {
		for _, source := range list(math.MinInt, -1, 0, 1, 2, 3, 4, 5, 6, 7, 8, 30, math.MaxInt) {
			want := api.ErrNone
			if slices.Contains(sourcesOf(l), source) {
				want = api.OK
			}
			got, e := settle.Without(l, source)
			if e != want || e == api.OK && !equalProofs(got, lessOne(l, source)) || e != api.OK && len(got) > 0 {
				t.Fatalf("Without %d of %v: %v, error %d", source, l, got, e)
			}
		}
	}
	if got, e := settle.Without(many(1), 2); e != api.OK || len(got) != 0 {
		t.Error(got, e)
	}
	wantNone := func(_ []api.Proof, e api.Errno) {
		if e != api.ErrProofs {
			t.Error("ErrProofs is named before ErrNone:", e)
		}
	}
	wantNone(settle.Without(many(61), 1))
}

func TestDatesAndCounting(t *testing.T) {
	wantList(t, "no dates", nil, api.OK)(settle.Dates(nil))
	for _, l := range append(randomProofs(300), example()) {
		var dates []int
		for _, p := range l {
			dates = append(dates, p.Known, p.Until)
		}
		slices.Sort(dates)
		known := slices.ContainsFunc(l, func(p api.Proof) bool { return p.Known == 0 })
		dates = slices.DeleteFunc(slices.Compact(dates), func(day int) bool { return day == 0 && !known })
		wantList(t, "dates", dates, api.OK)(settle.Dates(l))
		for _, day := range list(0, 1, 2, 3, 4, 5, 6, 7, 8, 9, 609, 610, 649, 650, 699, 700, 4166) {
			wantList(t, "counting", sourcesOf(counting(l, day)), api.OK)(settle.Counting(l, day))
		}
	}
	edge := []api.Proof{{Source: 1, Kind: 1, Persons: list(1), Known: 4165, Until: 4166}, {Source: 2, Kind: 1, Persons: list(1), Known: 4166}}
	wantList(t, "last dates", list(4165, 4166), api.OK)(settle.Dates(edge))
	wantList(t, "known on the last day", list(2), api.OK)(settle.Counting(edge, 4166))
	wantList(t, "known the day before", list(1), api.OK)(settle.Counting(edge, 4165))
}
