package mill_test

import (
	"math"
	"math/rand"
	"slices"
	"testing"

	"leazing/api"
	"leazing/mill"
)

// P5.1 and P5.3: demands that are served, and families that are crowded for them, also those that the package would not return.

// checkDemands wants demands to be served, or families to be crowded, and not both.
func checkDemands(t *testing.T, c crowding, demands []int) bool {
	t.Helper()
	served := c.serves(demands)
	if got, e := mill.Serves(c.m, demands); got != served || e != api.OK {
		t.Fatalf("%+v: %v is served: %t, error %d, want %t", c.m, demands, got, e, served)
	}
	crowd, e := mill.Crowd(c.m, demands)
	checkOwnCrowd(t, c.m, demands, crowd, e, served)
	return served
}

// checkOwnCrowd wants families that are crowded, or none beside ErrEnough if the demands are served.
func checkOwnCrowd(t *testing.T, m api.Mill, demands, crowd []int, e api.Errno, served bool) {
	t.Helper()
	if e != verdict(!served, api.ErrEnough) || served && len(crowd) > 0 {
		t.Fatalf("%+v: the crowd %v, error %d, of %v, which is served: %t", m, crowd, e, demands, served)
	}
	if !served && (!isCrowd(m, demands, crowd) || mill.CheckCrowd(m, demands, crowd) != api.OK) {
		t.Fatalf("%+v: no crowd: %v, of %v", m, crowd, demands)
	}
}

// checkUnserved wants families that cannot all have an hour, or none.
func checkUnserved(t *testing.T, c crowding) bool {
	t.Helper()
	served := c.serves(lesser(c.m, 1))
	crowd, e := mill.Unserved(c.m)
	checkOwnCrowd(t, c.m, lesser(c.m, 1), crowd, e, served)
	return served
}

// TestAllDemands: P5.3: all demands, and all sets of families, on small mills; a sharing serves them exactly if no set is crowded.
func TestAllDemands(t *testing.T) {
	crowds := 0
	mills(40, 300, size{5, 3}, func(m api.Mill) {
		c := crowdingOf(m)
		checkUnserved(t, c)
		allDemands(len(m.Comers), 6, func(demands []int) {
			served, crowded := checkDemands(t, c, demands), 0
			for set := range 1 << len(m.Comers) {
				if checkCrowd(t, m, demands, familiesOf(m, set)) {
					crowded++
				}
			}
			if served != (crowded == 0) {
				t.Fatalf("%+v: %v is served: %t, and %d sets are crowded", m, demands, served, crowded)
			}
			crowds += crowded
		})
	})
	if crowds < 10000 {
		t.Error("crowds:", crowds)
	}
}

// randomDemands returns demands of a mill: of what is wanted, about what can be, or any.
func randomDemands(r *rand.Rand, c crowding) []int {
	demands := lesser(c.m, 24)
	kind := r.Intn(4)
	hours := c.hours()
	for i := range demands {
		switch kind {
		case 0:
			demands[i] = r.Intn(25)
		case 1:
			demands[i] = r.Intn(3)
		case 2:
			demands[i] = hours[i]
		}
	}
	if len(demands) > 0 && r.Intn(3) > 0 {
		i := r.Intn(len(demands))
		demands[i] = min(24, max(0, demands[i]+r.Intn(3)-1))
	}
	return demands
}

// TestDemands: P5.3, on mills up to the limits.
func TestDemands(t *testing.T) {
	for i, most := range []size{{6, 8}, {12, 6}, {24, 4}, {24, 9}, great} {
		r := rand.New(rand.NewSource(int64(41 + i)))
		served, refused, unserved := 0, 0, 0
		mills(int64(41+i), 400, most, func(m api.Mill) {
			c := crowdingOf(m)
			if !checkUnserved(t, c) {
				unserved++
			}
			for range 4 {
				if checkDemands(t, c, randomDemands(r, c)) {
					served++
				} else {
					refused++
				}
			}
		})
		if served < 300 || refused < 300 || unserved < 20 {
			t.Error(most, "served:", served, "refused:", refused, "unserved:", unserved)
		}
	}
}

// TestJustEnough: as many hours as are demanded, and one less.
func TestJustEnough(t *testing.T) {
	for comers := 1; comers <= 12; comers++ {
		for each := 1; each*comers <= 24; each++ {
			hours := each * comers
			demands := slices.Repeat(list(each), comers)
			m := api.Mill{Hours: hours, Comers: many(comers, 1<<hours-1, 0)}
			want(t, m, true, api.OK)(mill.Serves(m, demands))
			wantList(t, m, nil, api.ErrEnough)(mill.Crowd(m, demands))
			less := changed(m, -1, func(hours int) int { return hours >> 1 })
			want(t, less, false, api.OK)(mill.Serves(less, demands))
			wantList(t, less, familiesOf(m, 1<<comers-1), api.OK)(mill.Crowd(less, demands))
			less.Hours--
			want(t, less, false, api.OK)(mill.Serves(less, demands))
			demands[comers-1]--
			want(t, less, true, api.OK)(mill.Serves(less, demands))
			checkDemands(t, crowdingOf(less), demands)
		}
	}
	none := api.Mill{Comers: many(12, 0, 24)}
	want(t, none, true, api.OK)(mill.Serves(none, make([]int, 12)))
	wantList(t, none, nil, api.ErrEnough)(mill.Crowd(none, make([]int, 12)))
	for i := range 12 {
		demands := make([]int, 12)
		demands[i] = 1
		checkDemands(t, crowdingOf(none), demands)
		wantError(t, none, api.OK, mill.CheckCrowd(none, demands, list(2*i+1)))
	}
	want(t, "nobody", true, api.OK)(mill.Serves(api.Mill{}, nil))
	wantList(t, "nobody", nil, api.ErrEnough)(mill.Unserved(api.Mill{Hours: 24}))
}

// TestUnserved: those that want no hour demand none, however few hours there are.
func TestUnserved(t *testing.T) {
	m := api.Mill{Hours: 24, Comers: many(12, 1<<23, 0)}
	wantList(t, m, nil, api.ErrEnough)(mill.Unserved(m))
	m.Comers[11].Wants = 24
	wantList(t, m, nil, api.ErrEnough)(mill.Unserved(m))
	m.Comers[3].Wants = 1
	crowd, e := mill.Unserved(m)
	checkOwnCrowd(t, m, lesser(m, 1), crowd, e, false)
	for _, i := range list(3, 11) {
		if !slices.Contains(crowd, 2*i+1) {
			t.Errorf("%v are crowded", crowd)
		}
	}
}

// checkCrowd wants families to be accepted exactly if they are crowded.
func checkCrowd(t *testing.T, m api.Mill, demands, families []int) bool {
	t.Helper()
	is := isCrowd(m, demands, families)
	if e := mill.CheckCrowd(m, demands, families); e != verdict(is, api.ErrCrowd) {
		t.Fatalf("%+v: error %d for the crowd %v of %v; it is one: %t", m, e, families, demands, is)
	}
	return is
}

// nearCrowds calls try with lists that differ a little from families.
func nearCrowds(r *rand.Rand, m api.Mill, families []int, try func(near []int)) {
	others := list(0, -1, 100, math.MinInt, math.MaxInt, 1+r.Intn(99))
	for _, c := range m.Comers {
		others = append(others, c.Family)
	}
	for i := range len(families) + 1 {
		for _, n := range others {
			try(slices.Insert(slices.Clone(families), i, n))
		}
	}
	for i, family := range families {
		try(families[:i])
		try(slices.Delete(slices.Clone(families), i, i+1))
		for _, n := range append(others, -family, family+1, family-1, family+1<<32) {
			near := slices.Clone(families)
			near[i] = n
			try(near)
		}
	}
	turned := slices.Clone(families)
	slices.Reverse(turned)
	try(turned)
	try(slices.Concat(families, families))
}

// TestCrowds: sets of families, and what is nearly one, on mills up to the limits.
func TestCrowds(t *testing.T) {
	for i, most := range []size{{6, 8}, {24, 4}, great} {
		r := rand.New(rand.NewSource(int64(50 + i)))
		accepted, refused := 0, 0
		mills(int64(50+i), 150, most, func(m api.Mill) {
			c := crowdingOf(m)
			try := func(demands, families []int) {
				if checkCrowd(t, m, demands, families) {
					accepted++
				} else {
					refused++
				}
			}
			for range 3 {
				demands := randomDemands(r, c)
				crowd, _ := mill.Crowd(m, demands)
				for _, families := range [][]int{crowd, familiesOf(m, r.Intn(1<<len(m.Comers))), familiesOf(m, -1)} {
					nearCrowds(r, m, families, func(near []int) { try(demands, near) })
				}
			}
		})
		if accepted < 2000 || refused < 20000 {
			t.Error(most, "accepted:", accepted, "refused:", refused)
		}
	}
}

// TestFewDemands: which lists are demands of a mill.
func TestFewDemands(t *testing.T) {
	check := func(m api.Mill, demands []int, valid bool) {
		t.Helper()
		_, e := mill.Serves(m, demands)
		wantError(t, demands, verdict(valid, api.ErrFew), e)
		if _, e := mill.Crowd(m, demands); (e == api.ErrFew) == valid {
			t.Errorf("%+v: %v: error %d, valid: %t", m, demands, e, valid)
		}
		if e := mill.CheckCrowd(m, demands, list(0)); e != verdict(false, api.ErrCrowd) && valid || e != api.ErrFew && !valid {
			t.Errorf("%+v: %v: error %d, valid: %t", m, demands, e, valid)
		}
	}
	for comers := range 13 {
		m := api.Mill{Hours: 24, Comers: many(comers, 1<<24-1, 3)}
		for n := range 15 {
			check(m, make([]int, n), n == comers)
		}
		check(m, make([]int, 1000000), false)
		for i := range comers {
			edges(0, 24, func(n int, valid bool) {
				demands := make([]int, comers)
				demands[i] = n
				check(m, demands, valid)
			})
		}
	}
}
