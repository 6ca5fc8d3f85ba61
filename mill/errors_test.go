package mill_test

import (
	"math"
	"reflect"
	"slices"
	"testing"

	"leazing/api"
	"leazing/mill"
)

// P1, and R1 to R4: errors and their order, results beside them, and memory.

// args is what the calls take; not all calls take all of it.
type args struct {
	y               api.Yield
	bundles, flour  api.Range
	gallons, hourly int
	m               api.Mill
	c               api.Comer
	family, hour    int
	share, demands  []int
	families        []int
}

// call is a call of a function: the errors that its arguments may have, in the order in which they are named, and what it returns.
type call struct {
	name string
	may  []api.Errno
	do   func(a args) (any, api.Errno)
}

func two[T any](x T, e api.Errno) (any, api.Errno) { return x, e }

func errors(list ...api.Errno) []api.Errno { return list }

// calls are those of all functions that the chapter lists.
func calls() []call {
	const grain, wrong, few, comes, hour = api.ErrGrain, api.ErrMill, api.ErrFew, api.ErrComes, api.ErrHour
	return []call{
		{"CheckYield", errors(api.ErrYield), func(a args) (any, api.Errno) { return nil, mill.CheckYield(a.y) }},
		{"Threshed", errors(api.ErrYield, grain), func(a args) (any, api.Errno) { return two(mill.Threshed(a.y, a.bundles)) }},
		{"Toll", errors(api.ErrYield, grain), func(a args) (any, api.Errno) { return two(mill.Toll(a.y, a.gallons)) }},
		{"Flour", errors(api.ErrYield, grain), func(a args) (any, api.Errno) { return two(mill.Flour(a.y, a.bundles)) }},
		{"Bundles", errors(api.ErrYield, grain, api.ErrNone), func(a args) (any, api.Errno) { return two(mill.Bundles(a.y, a.flour)) }},
		{"Wants", errors(grain), func(a args) (any, api.Errno) { return two(mill.Wants(a.gallons, a.hourly)) }},
		{"CheckComer", errors(api.ErrComer), func(a args) (any, api.Errno) { return nil, mill.CheckComer(a.c) }},
		{"Check", errors(wrong), func(a args) (any, api.Errno) { return nil, mill.Check(a.m) }},
		{"With", errors(wrong, api.ErrComer, api.ErrLong), func(a args) (any, api.Errno) { return two(mill.With(a.m, a.c)) }},
		{"Without", errors(wrong, comes), func(a args) (any, api.Errno) { return two(mill.Without(a.m, a.family)) }},
		{"Level", errors(wrong), func(a args) (any, api.Errno) { return two(mill.Level(a.m)) }},
		{"Hours", errors(wrong), func(a args) (any, api.Errno) { return two(mill.Hours(a.m)) }},
		{"Share", errors(wrong), func(a args) (any, api.Errno) { return two(mill.Share(a.m)) }},
		{"CheckShare", errors(wrong, api.ErrShare), func(a args) (any, api.Errno) { return nil, mill.CheckShare(a.m, a.share) }},
		{"Serves", errors(wrong, few), func(a args) (any, api.Errno) { return two(mill.Serves(a.m, a.demands)) }},
		{"Crowd", errors(wrong, few, api.ErrEnough), func(a args) (any, api.Errno) { return two(mill.Crowd(a.m, a.demands)) }},
		{"CheckCrowd", errors(wrong, few, api.ErrCrowd), func(a args) (any, api.Errno) { return nil, mill.CheckCrowd(a.m, a.demands, a.families) }},
		{"Unserved", errors(wrong, api.ErrEnough), func(a args) (any, api.Errno) { return two(mill.Unserved(a.m)) }},
		{"Comes", errors(wrong, comes, hour), func(a args) (any, api.Errno) { return two(mill.Comes(a.m, a.family, a.hour)) }},
		{"Idle", errors(wrong), func(a args) (any, api.Errno) { return two(mill.Idle(a.m)) }},
		{"Moved", errors(wrong, comes), func(a args) (any, api.Errno) { return two(mill.Moved(a.m, a.family)) }},
	}
}

// right returns arguments by which no call has an error: the mill of the examples, and three more families, which can come at the hour 5 only.
func right() args {
	m := with(example(), api.Comer{Family: 3, Hours: 32, Wants: 1}, api.Comer{Family: 5, Hours: 32, Wants: 1}, api.Comer{Family: 11, Hours: 32, Wants: 1})
	return args{
		y: yield(), bundles: span(10, 35), flour: span(4, 4), gallons: 21, hourly: 8, m: m, c: api.Comer{Family: 99, Hours: 63, Wants: 24},
		family: 7, hour: 5, share: list(7, 7, 4, 9, 2, 3), demands: list(2, 1, 1, 1, 1, 0, 1), families: list(3, 11),
	}
}

// wrongs has, for errors of arguments, what leads to them; of those of one argument the error that is named first stands last, unless both can be.
var wrongs = []struct {
	e  api.Errno
	do []func(a *args)
}{
	{api.ErrYield, []func(a *args){
		func(a *args) { a.y = api.Yield{} },
		func(a *args) { a.y.Toll = 101 },
		func(a *args) { a.y.Gallons.Lo = 61 },
	}},
	{api.ErrNone, []func(a *args){
		func(a *args) { a.flour = span(2000, 2010) },
	}},
	{api.ErrGrain, []func(a *args){
		func(a *args) { a.bundles, a.flour, a.gallons = span(5, 4), span(5, 4), -1 },
		func(a *args) { a.bundles, a.flour, a.gallons = span(0, 2001), span(0, 20001), 20001 },
		func(a *args) {
			a.bundles, a.flour, a.gallons = span(math.MinInt, math.MaxInt), span(math.MinInt, math.MaxInt), math.MaxInt
		},
	}},
	{api.ErrMill, []func(a *args){
		func(a *args) { a.m.Comers[6].Family = 7 },
		func(a *args) { a.m.Hours = 25 },
		func(a *args) { a.m.Hours = 5 },
		func(a *args) { a.m.Comers = append(a.m.Comers, many(6, 1, 1)...) },
	}},
	{api.ErrComer, []func(a *args){
		func(a *args) { a.c.Family = 0 },
		func(a *args) { a.c.Hours = 1 << 24 },
		func(a *args) { a.c.Wants = -1 },
	}},
	{api.ErrLong, []func(a *args){
		func(a *args) {
			for i := range 5 {
				a.m.Comers = append(a.m.Comers, api.Comer{Family: 50 + i})
				a.demands = append(a.demands, 0)
			}
		},
	}},
	{api.ErrFew, []func(a *args){
		func(a *args) { a.demands = append(a.demands, 0) },
		func(a *args) { a.demands = nil },
		func(a *args) { a.demands[0] = 25 },
		func(a *args) { a.demands[len(a.demands)-1] = -1 },
	}},
	{api.ErrComes, []func(a *args){
		func(a *args) { a.family = 98 },
		func(a *args) { a.family = 0 },
	}},
	{api.ErrHour, []func(a *args){
		func(a *args) { a.hour = 6 },
		func(a *args) { a.hour = -1 },
	}},
	{api.ErrShare, []func(a *args){
		func(a *args) { a.share[5] = 0 },
		func(a *args) { a.share = nil },
	}},
	{api.ErrCrowd, []func(a *args){
		func(a *args) { a.families[0] = 11 },
		func(a *args) { a.families = nil },
	}},
}

// mixes calls try with all mixes of right and at most three wrong arguments, and which errors they have.
func mixes(try func(a args, has map[api.Errno]bool)) {
	var mix func(next int, do []func(a *args), has []api.Errno)
	mix = func(next int, do []func(a *args), has []api.Errno) {
		a, errs := right(), map[api.Errno]bool{}
		for i, change := range do {
			change(&a)
			errs[has[i]] = true
		}
		try(a, errs)
		if len(do) == 3 {
			return
		}
		for i := next; i < len(wrongs); i++ {
			for _, wrong := range wrongs[i].do {
				mix(i+1, append(slices.Clone(do), wrong), append(slices.Clone(has), wrongs[i].e))
			}
		}
	}
	mix(0, nil, nil)
}

// isZero tells whether a result is a zero value; lists in it may be empty.
func isZero(x any) bool {
	if m, ok := x.(api.Mill); ok {
		return m.Hours == 0 && len(m.Comers) == 0
	}
	v := reflect.ValueOf(x)
	return !v.IsValid() || v.IsZero() || v.Kind() == reflect.Slice && v.Len() == 0
}

// TestFirstError: P1 and R1: of several errors the one is returned that is named first; R2: with an error, other results are zero values.
func TestFirstError(t *testing.T) {
	tried := 0
	mixes(func(a args, has map[api.Errno]bool) {
		for _, c := range calls() {
			wanted := api.OK
			for _, e := range c.may {
				if wanted == api.OK && has[e] {
					wanted = e
				}
			}
			got, e := c.do(a)
			if e != wanted {
				t.Fatalf("%s, %+v: error %d, want %d", c.name, a, e, wanted)
			}
			if e != api.OK && !isZero(got) {
				t.Fatalf("%s, %+v: %v beside the error %d", c.name, a, got, e)
			}
			if e != api.OK {
				tried++
			}
		}
	})
	if tried < 20000 {
		t.Error("tried:", tried)
	}
}

// TestEnough: the errors of Crowd and Unserved where there is no crowd.
func TestEnough(t *testing.T) {
	a := right()
	a.demands[6] = 0
	wantList(t, a, nil, api.ErrEnough)(mill.Crowd(a.m, a.demands))
	a.m.Comers[6].Wants, a.m.Comers[5].Wants = 0, 0
	wantList(t, a, nil, api.ErrEnough)(mill.Unserved(a.m))
	a.demands[0] = 25
	wantList(t, a, nil, api.ErrFew)(mill.Crowd(a.m, a.demands))
	a.m.Hours = 25
	wantList(t, a, nil, api.ErrMill)(mill.Crowd(a.m, a.demands))
	wantList(t, a, nil, api.ErrMill)(mill.Unserved(a.m))
}

// spacious returns a copy of a list in memory that has room behind it, and all that memory.
func spacious[T any](l []T) ([]T, []T) {
	whole := append(slices.Clone(l), make([]T, 20)...)
	return whole[:len(l)], whole
}

// TestMemory: R4: results share no memory with arguments, and arguments are not changed, nor what lies behind them.
func TestMemory(t *testing.T) {
	for i := range len(right().m.Comers) {
		a := right()
		a.family = a.m.Comers[i].Family
		for _, hour := range list(0, 3, 5) {
			a.hour = hour
			for _, c := range calls() {
				checkMemory(t, c, a)
			}
		}
	}
}

func checkMemory(t *testing.T, c call, same args) {
	t.Helper()
	a := same
	var memory, before [4]any
	a.m.Comers, memory[0] = spacious(same.m.Comers)
	a.share, memory[1] = spacious(same.share)
	a.demands, memory[2] = spacious(same.demands)
	a.families, memory[3] = spacious(same.families)
	_, before[0] = spacious(same.m.Comers)
	_, before[1] = spacious(same.share)
	_, before[2] = spacious(same.demands)
	_, before[3] = spacious(same.families)
	first, e := c.do(a)
	spoil(first)
	if !reflect.DeepEqual(memory, before) {
		t.Errorf("%s changes its arguments, or returns their memory", c.name)
	}
	second, f := c.do(a)
	third, h := c.do(same)
	if e != api.OK || f != api.OK || h != api.OK || !reflect.DeepEqual(second, third) {
		t.Errorf("%s: errors %d, %d and %d; %v, and then %v", c.name, e, f, h, second, third)
	}
}

// spoil changes all that a result has, beyond its lists too.
func spoil(x any) {
	switch v := x.(type) {
	case []int:
		fill(v, -9)
	case api.Mill:
		fill(v.Comers, api.Comer{Family: -9})
	}
}

func fill[T any](l []T, x T) {
	l = l[:cap(l)]
	for i := range l {
		l[i] = x
	}
}

// TestNilAndEmpty: R3.
func TestNilAndEmpty(t *testing.T) {
	for _, comers := range [][]api.Comer{nil, {}} {
		for _, l := range [][]int{nil, {}} {
			for hours := range 3 {
				m := api.Mill{Hours: hours, Comers: comers}
				wantError(t, m, api.OK, mill.Check(m))
				want(t, m, 24, api.OK)(mill.Level(m))
				wantList(t, m, nil, api.OK)(mill.Hours(m))
				wantList(t, m, make([]int, hours), api.OK)(mill.Share(m))
				wantError(t, m, verdict(hours == 0, api.ErrShare), mill.CheckShare(m, l))
				want(t, m, true, api.OK)(mill.Serves(m, l))
				wantList(t, m, nil, api.ErrEnough)(mill.Crowd(m, l))
				wantError(t, m, api.ErrCrowd, mill.CheckCrowd(m, l, l))
				wantList(t, m, list(0, 1)[:hours], api.OK)(mill.Idle(m))
				c := api.Comer{Family: 8, Wants: 3}
				wantMill(t, m, with(m, c), api.OK)(mill.With(m, c))
				wantMill(t, m, m, api.OK)(mill.Without(with(m, c), 8))
				wantList(t, m, nil, api.OK)(mill.Moved(with(m, c), 8))
			}
			wantError(t, l, api.ErrShare, mill.CheckShare(example(), l))
			want(t, l, false, api.ErrFew)(mill.Serves(example(), l))
			wantError(t, l, api.ErrCrowd, mill.CheckCrowd(example(), list(24, 24, 24, 24), l))
		}
	}
}

// TestAnyArguments: P1: no call panics, whatever the numbers are.
func TestAnyArguments(t *testing.T) {
	odd := list(math.MinInt, math.MinInt+1, -1, 0, 1, 23, 24, 25, 63, 64, 1<<24-1, 1<<24, 20000, math.MaxInt-1, math.MaxInt)
	for _, m := range odd {
		for _, n := range odd {
			a := args{y: api.Yield{Gallons: span(m, n), Toll: m}, bundles: span(n, m), flour: span(m, n), gallons: m, hourly: n, c: api.Comer{Family: m, Hours: n, Wants: m}, family: m, hour: n, share: list(m, n, m), demands: list(n, m), families: list(m, n)}
			a.m = api.Mill{Hours: m, Comers: []api.Comer{a.c, {Family: n, Hours: m, Wants: n}}}
			b, d := right(), a
			b.family, b.hour, b.c, b.gallons, b.hourly, b.bundles, b.flour = n, m, a.c, n, m, a.bundles, a.flour
			b.share[0], b.demands[0], b.families[0] = m, n, m
			d.m, d.y = right().m, yield()
			for _, c := range calls() {
				for _, x := range []args{a, b, d} {
					if got, e := c.do(x); e != api.OK && !isZero(got) {
						t.Errorf("%s, %+v: %v beside the error %d", c.name, x, got, e)
					}
				}
			}
		}
	}
}
