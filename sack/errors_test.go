package sack_test

import (
	"math"
	"math/rand"
	"reflect"
	"slices"
	"testing"

	"leazing/api"
	"leazing/sack"
)

// P1, and R1 to R4: errors and their order, results beside them, and memory.

// args is what the calls take; not all calls take all of it.
type args struct {
	s                        api.Sacks
	p                        api.Pass
	h                        api.Hoard
	cert, source, day, known int
	spot                     api.Spot
	flow, by                 []int
	f                        api.Fence
	most                     bool
	text                     string
}

// call is a call of a function: the errors that its arguments may have, in the order in which they are named, and what it returns.
type call struct {
	name string
	may  []api.Errno
	do   func(a args) (any, api.Errno)
}

func errors(list ...api.Errno) []api.Errno { return list }

// calls are those of all functions that the chapter lists; the fence, the clash and those of sacks that are not sound have calls of their own.
func calls() []call {
	const wrong, spot, arg, day, told, flow, clash = api.ErrSacks, api.ErrSpot, api.ErrArg, api.ErrDay, api.ErrTold, api.ErrFlow, api.ErrClash
	return []call{
		{"CheckPass", errors(api.ErrPass), func(a args) (any, api.Errno) { return nil, sack.CheckPass(a.p) }},
		{"CheckHoard", errors(api.ErrHoard), func(a args) (any, api.Errno) { return nil, sack.CheckHoard(a.h) }},
		{"Check", errors(wrong), func(a args) (any, api.Errno) { return nil, sack.Check(a.s) }},
		{"With", errors(wrong, api.ErrHoard, api.ErrLong), func(a args) (any, api.Errno) { return two(sack.With(a.s, a.h)) }},
		{"Without", errors(wrong, arg, api.ErrNone), func(a args) (any, api.Errno) { return two(sack.Without(a.s, a.cert)) }},
		{"Dates", errors(wrong), func(a args) (any, api.Errno) { return two(sack.Dates(a.s)) }},
		{"Sound", errors(wrong, day), func(a args) (any, api.Errno) { return two(sack.Sound(a.s, a.known)) }},
		{"CheckFlow", errors(wrong, day, flow), func(a args) (any, api.Errno) { return nil, sack.CheckFlow(a.s, a.known, a.flow) }},
		{"Had", errors(wrong, spot, day, flow), func(a args) (any, api.Errno) { return two(sack.Had(a.s, a.flow, a.spot, a.known)) }},
		{"Have", errors(wrong, spot, day, clash), func(a args) (any, api.Errno) { return two(sack.Have(a.s, a.spot, a.known)) }},
		{"Went", errors(wrong, day, told, clash), func(a args) (any, api.Errno) { return two(sack.Went(a.s, a.source, a.known)) }},
		{"Reach", errors(wrong, spot, day, clash), func(a args) (any, api.Errno) { return two(sack.Reach(a.s, a.spot, a.known, a.most)) }},
		{"Attain", errors(wrong, day, told, clash), func(a args) (any, api.Errno) { return two(sack.Attain(a.s, a.source, a.known, a.most)) }},
		{"Rests", errors(wrong, arg, day, clash), func(a args) (any, api.Errno) { return two(sack.Rests(a.s, a.cert, a.known)) }},
		{"Total", errors(wrong, day, clash), func(a args) (any, api.Errno) { return two(sack.Total(a.s, a.day, a.known)) }},
		{"Moved", errors(wrong, arg, day, api.ErrNone), func(a args) (any, api.Errno) { return two(sack.Moved(a.s, a.cert, a.day, a.known)) }},
		{"Print", errors(wrong), func(a args) (any, api.Errno) { return two(sack.Print(a.s)) }},
		{"Parse", errors(api.ErrText), func(a args) (any, api.Errno) {
			s, _, e := sack.Parse(a.text)
			return s, e
		}},
	}
}

// contraryCalls are calls of what contradicts itself: of the sacks of the example that is so.
func contraryCalls() []call {
	const wrong, day = api.ErrSacks, api.ErrDay
	contrary := func(a args) api.Sacks {
		for i, h := range a.s.Hoards {
			if h.Source == 13 {
				a.s.Hoards = slices.Clone(a.s.Hoards)
				a.s.Hoards[i].Known = 0
			}
		}
		return a.s
	}
	return []call{
		{"Fence", errors(wrong, day), func(a args) (any, api.Errno) { return two(sack.Fence(contrary(a), a.known)) }},
		{"CheckFence", errors(wrong, day, api.ErrFence), func(a args) (any, api.Errno) { return nil, sack.CheckFence(contrary(a), a.known, a.f) }},
		{"Clash", errors(wrong, day), func(a args) (any, api.Errno) { return two(sack.Clash(contrary(a), a.known)) }},
		{"CheckClash", errors(wrong, day, api.ErrFit), func(a args) (any, api.Errno) { return nil, sack.CheckClash(contrary(a), a.known, a.by) }},
	}
}

// right returns arguments by which no call has an error: the sacks of the examples.
func right() args {
	return args{
		s: example(), p: aPass(), h: aHoard(), cert: 77, source: 3, day: 20, known: 9, spot: spot(5, 30),
		flow: list(55, 30, 25, 50), by: list(13), f: fence(true, spot(3, 10)), text: exampleText,
	}
}

// wrongs has, for errors of arguments, what leads to them. That of sacks that contradict themselves leaves no true gallons.
var wrongs = []struct {
	e  []api.Errno
	do []func(a *args)
}{
	{errors(api.ErrPass), []func(a *args){
		func(a *args) { a.p = api.Pass{} },
	}},
	{errors(api.ErrText), []func(a *args){
		func(a *args) { a.text = "pass\n" },
	}},
	{errors(api.ErrClash, api.ErrFlow), []func(a *args){
		func(a *args) { a.s.Hoards[2].Known = 9 },
		func(a *args) { a.s.Hoards[1].Gallons = span(11, 12) },
	}},
	{errors(api.ErrSacks), []func(a *args){
		func(a *args) { a.s.Passes[3].Source = 3 },
		func(a *args) { a.s.Hoards[0].Family = 0 },
		func(a *args) { a.s.Hoards = append(a.s.Hoards, longest(58).Hoards...) },
		func(a *args) { a.s.Passes = append(a.s.Passes, longest(57).Passes...) },
	}},
	{errors(api.ErrSpot), []func(a *args){
		func(a *args) { a.spot.Family = 0 },
		func(a *args) { a.spot.Family = 100 },
		func(a *args) { a.spot.Day = -1 },
		func(a *args) { a.spot.Day = 4167 },
	}},
	{errors(api.ErrArg), []func(a *args){
		func(a *args) { a.cert = 0 },
		func(a *args) { a.cert = 100000 },
	}},
	{errors(api.ErrDay), []func(a *args){
		func(a *args) { a.known = -1 },
		func(a *args) { a.known = 4167 },
	}},
	{errors(api.ErrTold), []func(a *args){
		func(a *args) { a.source = 11 },
		func(a *args) { a.source = -3 },
	}},
	{errors(api.ErrFlow), []func(a *args){
		func(a *args) { a.flow[0] = 61 },
		func(a *args) { a.flow = nil },
	}},
	{errors(api.ErrHoard), []func(a *args){
		func(a *args) { a.h.Day = 4167 },
		func(a *args) { a.h.Source = 0 },
	}},
	{errors(api.ErrLong), []func(a *args){
		func(a *args) { a.s.Hoards = append(a.s.Hoards, longest(57).Hoards...) },
	}},
	{errors(api.ErrNone), []func(a *args){
		func(a *args) { a.cert = 78 },
	}},
	{errors(api.ErrFence, api.ErrFit), []func(a *args){
		func(a *args) { a.f.Over, a.by = false, nil },
		func(a *args) { a.f.Spots, a.by = nil, list(11, 13) },
	}},
}

// mixes calls try with all mixes of right and at most three wrong arguments, and which errors they have.
func mixes(try func(a args, has map[api.Errno]bool)) {
	var mix func(next int, do []func(a *args), has []api.Errno)
	mix = func(next int, do []func(a *args), has []api.Errno) {
		a, errs := right(), map[api.Errno]bool{}
		for _, change := range do {
			change(&a)
		}
		for _, e := range has {
			errs[e] = true
		}
		if errs[api.ErrArg] && errs[api.ErrNone] { // the last one of these decides
			errs[api.ErrArg] = false
		}
		if errs[api.ErrLong] && len(a.s.Hoards) > 60 {
			errs[api.ErrSacks] = true
		}
		try(a, errs)
		if len(do) == 3 {
			return
		}
		for i := next; i < len(wrongs); i++ {
			for _, wrong := range wrongs[i].do {
				mix(i+1, append(slices.Clone(do), wrong), slices.Concat(has, wrongs[i].e))
			}
		}
	}
	mix(0, nil, nil)
}

// isZero tells whether a result is a zero value; lists in it may be empty.
func isZero(x any) bool {
	switch v := x.(type) {
	case nil:
		return true
	case []int:
		return len(v) == 0
	case api.Sacks:
		return same(v, api.Sacks{})
	case api.Fence:
		return !v.Over && len(v.Spots) == 0
	}
	return reflect.ValueOf(x).IsZero()
}

// TestFirstError: P1 and R1: of several errors the one is returned that is named first; R2: with an error, other results are zero values.
func TestFirstError(t *testing.T) {
	tried := 0
	mixes(func(a args, has map[api.Errno]bool) {
		for i, c := range slices.Concat(calls(), contraryCalls()) {
			if i >= len(calls()) && has[api.ErrClash] {
				continue
			}
			wanted := api.OK
			for _, e := range c.may {
				if wanted == api.OK && has[e] {
					wanted = e
				}
			}
			got, e := c.do(a)
			if e != wanted {
				t.Fatalf("%s, %+v: error %d, want %d", c.name, a, e, wanted)
			}
			if e != api.OK && !isZero(got) {
				t.Fatalf("%s, %+v: %v beside the error %d", c.name, a, got, e)
			}
			if e != api.OK {
				tried++
			}
		}
	})
	if tried < 20000 {
		t.Error("tried:", tried)
	}
}

// TestDayOfTotal: both days of Total and Moved are days.
func TestDayOfTotal(t *testing.T) {
	edges(0, 4166, func(n int, valid bool) {
		_, e := sack.Total(example(), n, 5)
		wantError(t, n, verdict(valid, api.ErrDay), e)
		_, e = sack.Total(example(), n, 12)
		wantError(t, n, map[bool]api.Errno{true: api.ErrClash, false: api.ErrDay}[valid], e)
		_, e = sack.Total(example(), 5, n)
		if (e == api.ErrDay) == valid {
			t.Errorf("%d: error %d", n, e)
		}
		_, e = sack.Moved(example(), 77, n, 5)
		wantError(t, n, verdict(valid, api.ErrDay), e)
		_, e = sack.Moved(example(), 77, 5, n)
		wantError(t, n, verdict(valid, api.ErrDay), e)
		_, e = sack.Moved(example(), 78, n, 5)
		wantError(t, n, map[bool]api.Errno{true: api.ErrNone, false: api.ErrDay}[valid], e)
	})
}

// TestEdgesOfArguments: spots, certificates and days at the limits.
func TestEdgesOfArguments(t *testing.T) {
	s := example()
	s.Hoards = s.Hoards[:2]
	edges(1, 99, func(n int, valid bool) {
		_, e := sack.Have(s, spot(n, 5), 5)
		wantError(t, n, verdict(valid, api.ErrSpot), e)
		_, e = sack.Reach(s, spot(n, 5), 5, true)
		wantError(t, n, verdict(valid, api.ErrSpot), e)
	})
	edges(0, 4166, func(n int, valid bool) {
		_, e := sack.Have(s, spot(3, n), 5)
		wantError(t, n, verdict(valid, api.ErrSpot), e)
		for _, e := range errorsOf(s, n) {
			wantError(t, n, verdict(valid, api.ErrDay), e)
		}
		_, e = sack.Fence(s, n)
		wantError(t, n, map[bool]api.Errno{true: api.ErrFit, false: api.ErrDay}[valid], e)
	})
	edges(1, 99999, func(n int, valid bool) {
		want(t, n, span(0, 0), verdict(valid, api.ErrArg))(sack.Rests(s, n, 5))
		want(t, n, span(0, 0), api.ErrTold)(sack.Went(s, -n, 5))
	})
}

// errorsOf returns the errors of calls as known on a day, which has to be one.
func errorsOf(s api.Sacks, known int) []api.Errno {
	_, a := sack.Sound(s, known)
	_, b := sack.Have(s, spot(3, 3), known)
	_, c := sack.Went(s, 1, known)
	_, d := sack.Rests(s, 77, known)
	_, e := sack.Reach(s, spot(3, 3), known, true)
	_, f := sack.Attain(s, 1, known, true)
	return errors(a, b, c, d, e, f)
}

// spacious returns a copy of a list in memory that has room behind it, and all that memory.
func spacious[T any](l []T) ([]T, []T) {
	whole := append(slices.Clone(l), make([]T, 20)...)
	return whole[:len(l)], whole
}

// TestMemory: R4: results share no memory with arguments, and arguments are not changed, nor what lies behind them.
func TestMemory(t *testing.T) {
	for _, source := range list(1, 4) {
		for _, most := range []bool{false, true} {
			a := right()
			a.source, a.most = source, most
			for _, c := range slices.Concat(calls(), contraryCalls()) {
				checkMemory(t, c, a)
			}
		}
	}
}

func checkMemory(t *testing.T, c call, same args) {
	t.Helper()
	a := same
	var memory, before [5]any
	a.s.Passes, memory[0] = spacious(same.s.Passes)
	a.s.Hoards, memory[1] = spacious(same.s.Hoards)
	a.flow, memory[2] = spacious(same.flow)
	a.by, memory[3] = spacious(same.by)
	a.f.Spots, memory[4] = spacious(same.f.Spots)
	_, before[0] = spacious(same.s.Passes)
	_, before[1] = spacious(same.s.Hoards)
	_, before[2] = spacious(same.flow)
	_, before[3] = spacious(same.by)
	_, before[4] = spacious(same.f.Spots)
	first, e := c.do(a)
	spoil(first)
	if !reflect.DeepEqual(memory, before) {
		t.Errorf("%s changes its arguments, or returns their memory", c.name)
	}
	second, f := c.do(a)
	third, h := c.do(same)
	if e != api.OK || f != api.OK || h != api.OK || !reflect.DeepEqual(second, third) {
		t.Errorf("%s: errors %d, %d and %d; %v, and then %v", c.name, e, f, h, second, third)
	}
}

// spoil changes all that a result has, beyond its lists too.
func spoil(x any) {
	switch v := x.(type) {
	case []int:
		fill(v, -9)
	case api.Sacks:
		fill(v.Passes, api.Pass{Source: -9})
		fill(v.Hoards, api.Hoard{Source: -9})
	case api.Fence:
		fill(v.Spots, api.Spot{Family: -9})
	}
}

func fill[T any](l []T, x T) {
	l = l[:cap(l)]
	for i := range l {
		l[i] = x
	}
}

// TestNilAndEmpty: R3, and sacks without passes or hoards.
func TestNilAndEmpty(t *testing.T) {
	for _, s := range []api.Sacks{{}, {Passes: []api.Pass{}, Hoards: []api.Hoard{}}} {
		for _, l := range [][]int{nil, {}} {
			wantError(t, s, api.OK, sack.Check(s))
			want(t, s, true, api.OK)(sack.Sound(s, 0))
			checkOwnFence(t, s, 4166, true)
			wantList(t, s, nil, api.ErrFit)(sack.Clash(s, 0))
			wantError(t, s, api.ErrFit, sack.CheckClash(s, 0, l))
			wantError(t, s, api.ErrFence, sack.CheckFence(s, 0, api.Fence{Spots: []api.Spot{}}))
			wantError(t, s, api.ErrFence, sack.CheckFence(s, 0, fence(true, spot(1, 0))))
			wantError(t, s, api.OK, sack.CheckFlow(s, 0, l))
			wantError(t, s, api.ErrFlow, sack.CheckFlow(s, 0, list(0)))
			want(t, s, 0, api.OK)(sack.Had(s, l, spot(1, 0), 0))
			want(t, s, span(0, 0), api.OK)(sack.Have(s, spot(99, 4166), 0))
			want(t, s, span(0, 0), api.OK)(sack.Total(s, 4166, 0))
			want(t, s, span(0, 0), api.OK)(sack.Rests(s, 1, 0))
			want(t, s, span(0, 0), api.ErrTold)(sack.Went(s, 1, 0))
			wantList(t, s, nil, api.OK)(sack.Reach(s, spot(1, 0), 0, true))
			wantList(t, s, nil, api.ErrNone)(sack.Moved(s, 1, 0, 0))
			want(t, s, "", api.OK)(sack.Print(s))
			wantSacks(t, s, api.Sacks{Hoards: []api.Hoard{aHoard()}}, api.OK)(sack.With(s, aHoard()))
		}
	}
}

// TestAnyArguments: P1: no call panics, whatever the numbers are.
func TestAnyArguments(t *testing.T) {
	odd := list(math.MinInt, math.MinInt+1, -1, 0, 1, 2, 12, 99, 100, 4166, 4167, 10000, 99999, 100000, math.MaxInt-1, math.MaxInt)
	r := rand.New(rand.NewSource(95))
	one := func() int { return odd[r.Intn(len(odd))] }
	few := func() []int { return list(one(), one(), one(), one())[:r.Intn(5)] }
	for range 20000 {
		a := right()
		b := args{p: api.Pass{Source: one(), From: one(), To: one(), Day: one(), Gallons: span(one(), one()), Cert: one(), Known: one(), Until: one()}}
		b.h = api.Hoard{Source: one(), Family: one(), Day: one(), Gallons: span(one(), one()), Known: one(), Until: one()}
		b.s = api.Sacks{Passes: []api.Pass{aPass(), b.p}[r.Intn(2):], Hoards: []api.Hoard{aHoard(), b.h}[r.Intn(2):]}
		b.cert, b.source, b.day, b.known, b.spot, b.flow, b.by = one(), one(), one(), one(), spot(one(), one()), few(), few()
		b.f = fence(r.Intn(2) == 0, spot(one(), one()), spot(one(), one()))
		if r.Intn(2) == 0 {
			b.s = a.s
		}
		for _, c := range slices.Concat(calls(), contraryCalls()) {
			if got, e := c.do(b); e != api.OK && !isZero(got) {
				t.Fatalf("%s, %+v: %v beside the error %d", c.name, b, got, e)
			}
		}
	}
}

// TestLongLists: lists that are much longer than what they could be.
func TestLongLists(t *testing.T) {
	s := example()
	wantError(t, "flow", api.ErrFlow, sack.CheckFlow(s, 5, make([]int, 1000000)))
	wantError(t, "sources", api.ErrFit, sack.CheckClash(s, 12, make([]int, 1000000)))
	wantError(t, "spots", api.ErrFence, sack.CheckFence(s, 12, api.Fence{Over: true, Spots: make([]api.Spot, 1000000)}))
	var all []api.Spot
	for f := 1; f <= 99; f++ {
		for day := range 4167 {
			all = append(all, spot(f, day))
		}
	}
	wantError(t, "all spots", api.ErrFence, sack.CheckFence(s, 12, api.Fence{Over: true, Spots: all}))
}

// TestManySpots: a fence of all families on as many days as there can be.
func TestManySpots(t *testing.T) {
	s := always(longest(60))
	var spots []api.Spot
	for i := range 60 {
		s.Passes[i].Day, s.Passes[i].Gallons, s.Hoards[i].Day = 2*i, span(0, 10), 2*i+1
	}
	for f := 1; f <= 99; f++ {
		for day := range 120 {
			spots = append(spots, spot(f, day))
		}
	}
	if !checkFence(t, s, 0, fence(false, spots...)) || checkFence(t, s, 0, fence(true, spots...)) {
		t.Error("600 gallons can have come, and 10000 were seen on the last day; what is left then has no bound")
	}
	checkOwnFence(t, s, 0, false)
}
