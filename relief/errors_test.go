package relief_test

import (
	"math"
	"math/rand"
	"reflect"
	"slices"
	"testing"

	"leazing/api"
	"leazing/relief"
)

// P1, and R1 to R4: errors and their order, results beside them, and memory.

// args is what the calls take; not all calls take all of it.
type args struct {
	r                           api.Relief
	s                           api.Scale
	n                           api.Need
	c                           api.Crop
	f                           api.Finding
	m                           api.Made
	family, week, known, source int
	gallons, days               []int
	l                           []api.Posting
}

// taken stands for the ErrFinding of a finding that is valid, whose Source an entry has.
const taken api.Errno = 1000

// call is a call of a function: the errors that its arguments may have, in the order in which they are named, and what it returns.
type call struct {
	name string
	may  []api.Errno
	do   func(a args) (any, api.Errno)
}

func errors(list ...api.Errno) []api.Errno { return list }

func two[T any](x T, e api.Errno) (any, api.Errno) { return x, e }

// calls are those of all functions that the chapter lists.
func calls() []call {
	const wrong, arg, week, day = api.ErrRelief, api.ErrArg, api.ErrWeek, api.ErrDay
	return []call{
		{"CheckScale", errors(api.ErrScale), func(a args) (any, api.Errno) { return nil, relief.CheckScale(a.s) }},
		{"CheckNeed", errors(api.ErrNeed), func(a args) (any, api.Errno) { return nil, relief.CheckNeed(a.n) }},
		{"CheckCrop", errors(api.ErrCrop), func(a args) (any, api.Errno) { return nil, relief.CheckCrop(a.c) }},
		{"CheckFinding", errors(api.ErrFinding), func(a args) (any, api.Errno) { return nil, relief.CheckFinding(a.f) }},
		{"CheckMade", errors(api.ErrMade), func(a args) (any, api.Errno) { return nil, relief.CheckMade(a.m) }},
		{"Check", errors(wrong), func(a args) (any, api.Errno) { return nil, relief.Check(a.r) }},
		{"Found", errors(wrong, api.ErrFinding, taken, api.ErrLong), func(a args) (any, api.Errno) { return two(relief.Found(a.r, a.f)) }},
		{"Families", errors(wrong, day), func(a args) (any, api.Errno) { return two(relief.Families(a.r, a.known)) }},
		{"Dates", errors(wrong), func(a args) (any, api.Errno) { return two(relief.Dates(a.r)) }},
		{"Wants", errors(wrong, arg, week, day), func(a args) (any, api.Errno) { return two(relief.Wants(a.r, a.family, a.week, a.known)) }},
		{"Bread", errors(wrong, arg, week, day), func(a args) (any, api.Errno) { return two(relief.Bread(a.r, a.family, a.week, a.known)) }},
		{"Carried", errors(wrong, arg, week, day), func(a args) (any, api.Errno) { return two(relief.Carried(a.r, a.family, a.week, a.known)) }},
		{"Counted", errors(wrong, arg, day), func(a args) (any, api.Errno) { return two(relief.Counted(a.r, a.family, a.known)) }},
		{"CheckCrops", errors(wrong, arg, day, api.ErrCrops), func(a args) (any, api.Errno) { return nil, relief.CheckCrops(a.r, a.family, a.known, a.gallons) }},
		{"Truly", errors(wrong, arg, week, day, api.ErrCrops), func(a args) (any, api.Errno) {
			return two(relief.Truly(a.r, a.family, a.week, a.known, a.gallons))
		}},
		{"Owed", errors(wrong, arg, day), func(a args) (any, api.Errno) { return two(relief.Owed(a.r, a.family, a.known)) }},
		{"Stands", errors(wrong, arg, day), func(a args) (any, api.Errno) { return two(relief.Stands(a.r, a.family, a.known)) }},
		{"Posts", errors(wrong, day), func(a args) (any, api.Errno) { return two(relief.Posts(a.r, a.days)) }},
		{"CheckPosts", errors(wrong, day, api.ErrPosts), func(a args) (any, api.Errno) { return nil, relief.CheckPosts(a.r, a.days, a.l) }},
		{"Balance", errors(wrong, arg, day), func(a args) (any, api.Errno) { return two(relief.Balance(a.r, a.days, a.family)) }},
		{"Moved", errors(wrong, day, api.ErrNone), func(a args) (any, api.Errno) { return two(relief.Moved(a.r, a.source, a.known)) }},
	}
}

// right returns arguments by which no call has an error: the relief of the examples.
func right() args {
	return args{
		r: example(), s: aScale(), n: aNeed(), c: aCrop(), f: aFinding(), m: aMade(), family: 7, week: 3, known: 25, source: 12, gallons: list(15, 6), days: list(15, 25, 30),
		l: []api.Posting{post(15, 7, 2, 0), post(25, 7, 9, 0), post(25, 8, 5, 0), post(30, 7, 16, 6)},
	}
}

// wrongs has, for errors of arguments, what leads to them.
var wrongs = []struct {
	e  []api.Errno
	do []func(a *args)
}{
	{errors(api.ErrScale, api.ErrNeed, api.ErrCrop, api.ErrMade), []func(a *args){
		func(a *args) { a.s.Bread, a.n.Heads, a.c.Gallons.Lo, a.m.Gallons = 101, 21, 301, 0 },
		func(a *args) { a.s.From, a.n.Family, a.c.Known, a.m.Source = -1, 0, 50, 100000 },
	}},
	{errors(api.ErrRelief), []func(a *args){
		func(a *args) { a.r.Needs[3].Source = 3 },
		func(a *args) { a.r.Crops[0].Source = 1 },
		func(a *args) { a.r.Findings[0].To = 2 },
		func(a *args) { a.r.Mades[0].Gallons = 0 },
		func(a *args) { a.r.Scales = longest(11).Scales },
		func(a *args) { a.r.Mades = append(a.r.Mades, longest(60).Mades...) },
	}},
	{errors(api.ErrArg), []func(a *args){
		func(a *args) { a.family = 0 },
		func(a *args) { a.family = 100 },
	}},
	{errors(api.ErrWeek), []func(a *args){
		func(a *args) { a.week = -1 },
		func(a *args) { a.week = 596 },
	}},
	{errors(api.ErrDay), []func(a *args){
		func(a *args) { a.known, a.days = -1, list(15, 25, 25) },
		func(a *args) { a.known, a.days = 4167, list(15, 25, 4167) },
		func(a *args) { a.known, a.days = math.MaxInt, numbers(10, 22) },
	}},
	{errors(api.ErrCrops), []func(a *args){
		func(a *args) { a.gallons[0] = 21 },
		func(a *args) { a.gallons = nil },
	}},
	{errors(api.ErrPosts), []func(a *args){
		func(a *args) { a.l[3].Owed = 5 },
		func(a *args) { a.l = nil },
	}},
	{errors(api.ErrFinding), []func(a *args){
		func(a *args) { a.f.To = 596 },
		func(a *args) { a.f.Source = 0 },
	}},
	{errors(taken), []func(a *args){
		func(a *args) { a.f.Source = 4 },
		func(a *args) { a.f.Source = 11 },
		func(a *args) { a.f.Source = 21 },
		func(a *args) { a.f.Source = 31 },
	}},
	{errors(api.ErrLong), []func(a *args){
		func(a *args) {
			for i := range 59 { // of a family that has nothing
				a.r.Findings = append(a.r.Findings, api.Finding{Source: 3000 + i, Family: 99, To: 595})
			}
		},
	}},
	{errors(api.ErrNone), []func(a *args){
		func(a *args) { a.source = 5 },
		func(a *args) { a.source = -12 },
	}},
}

// mixes calls try with all mixes of right and at most three wrong arguments, and which errors they have.
func mixes(try func(a args, has map[api.Errno]bool)) {
	var mix func(next int, do []func(a *args), has []api.Errno)
	mix = func(next int, do []func(a *args), has []api.Errno) {
		a, errs := right(), map[api.Errno]bool{}
		for _, change := range do {
			change(&a)
		}
		for _, e := range has {
			errs[e] = true
		}
		if errs[taken] { // the change that comes last decides of the Source
			errs[api.ErrFinding] = a.f.To > 595
		}
		try(a, errs)
		if len(do) == 3 {
			return
		}
		for i := next; i < len(wrongs); i++ {
			for _, wrong := range wrongs[i].do {
				mix(i+1, append(slices.Clone(do), wrong), slices.Concat(has, wrongs[i].e))
			}
		}
	}
	mix(0, nil, nil)
}

// isZero tells whether a result is a zero value; lists in it may be empty.
func isZero(x any) bool {
	switch v := x.(type) {
	case nil:
		return true
	case []int:
		return len(v) == 0
	case []api.Posting:
		return len(v) == 0
	case api.Relief:
		return same(v, api.Relief{})
	}
	return reflect.ValueOf(x).IsZero()
}

// TestFirstError: P1 and R1: of several errors the one is returned that is named first; R2: with an error, other results are zero values.
func TestFirstError(t *testing.T) {
	tried := map[string]int{}
	mixes(func(a args, has map[api.Errno]bool) {
		for _, c := range calls() {
			wanted := api.OK
			for _, e := range c.may {
				if wanted == api.OK && has[e] {
					wanted = e
				}
			}
			if wanted == taken {
				wanted = api.ErrFinding
			}
			got, e := c.do(a)
			if e != wanted {
				t.Fatalf("%s, %s: error %d, want %d", c.name, short(a), e, wanted)
			}
			if e != api.OK && !isZero(got) {
				t.Fatalf("%s, %s: %v beside the error %d", c.name, short(a), got, e)
			}
			if e != api.OK {
				tried[c.name]++
			}
		}
	})
	for _, c := range calls() {
		if tried[c.name] < 100 {
			t.Error(c.name, "tried:", tried[c.name])
		}
	}
}

// TestEdgesOfArguments: families, weeks and days at the limits.
func TestEdgesOfArguments(t *testing.T) {
	check := func(n int, change func(a *args), e api.Errno) {
		a := right()
		change(&a)
		for _, c := range calls() {
			if !slices.Contains(c.may, e) {
				continue
			}
			if _, got := c.do(a); (got == e) != (n < 0) {
				t.Errorf("%s, %d: error %d", c.name, n, got)
			}
		}
	}
	sign := func(valid bool) int { return map[bool]int{true: 1, false: -1}[valid] }
	edges(1, 99, func(n int, valid bool) { check(sign(valid), func(a *args) { a.family = n }, api.ErrArg) })
	edges(0, 595, func(n int, valid bool) { check(sign(valid), func(a *args) { a.week = n }, api.ErrWeek) })
	edges(0, 4166, func(n int, valid bool) {
		check(sign(valid), func(a *args) { a.known, a.days = n, list(n) }, api.ErrDay)
	})
}

// spacious returns a copy of a list in memory that has room behind it, and all that memory.
func spacious[T any](l []T) ([]T, []T) {
	whole := append(slices.Clone(l), make([]T, 20)...)
	return whole[:len(l)], whole
}

// roomy returns arguments whose lists are spacious, and all their memory.
func roomy(a args) (args, []any) {
	var memory [8]any
	a.r.Scales, memory[0] = spacious(a.r.Scales)
	a.r.Needs, memory[1] = spacious(a.r.Needs)
	a.r.Crops, memory[2] = spacious(a.r.Crops)
	a.r.Findings, memory[3] = spacious(a.r.Findings)
	a.r.Mades, memory[4] = spacious(a.r.Mades)
	a.gallons, memory[5] = spacious(a.gallons)
	a.days, memory[6] = spacious(a.days)
	a.l, memory[7] = spacious(a.l)
	return a, memory[:]
}

// TestMemory: R4: results share no memory with arguments, and arguments are not changed, nor what lies behind them.
func TestMemory(t *testing.T) {
	for _, source := range list(4, 12, 20, 500) {
		for _, c := range calls() {
			a, memory := roomy(right())
			_, before := roomy(right())
			a.f.Source = source
			if slices.Contains(list(4, 12), source) {
				a.f.Source, a.source = 400, source
			}
			first, e := c.do(a)
			spoil(first)
			if !reflect.DeepEqual(memory, before) {
				t.Errorf("%s changes its arguments, or returns their memory", c.name)
			}
			second, f := c.do(a)
			third, g := c.do(a)
			if e != api.OK || f != api.OK || g != api.OK || !reflect.DeepEqual(second, third) {
				t.Errorf("%s: errors %d, %d and %d; %v, and then %v", c.name, e, f, g, second, third)
			}
		}
	}
}

// spoil changes all that a result has, beyond its lists too.
func spoil(x any) {
	switch v := x.(type) {
	case []int:
		fill(v, -9)
	case []api.Posting:
		fill(v, api.Posting{Day: -9})
	case api.Relief:
		fill(v.Scales, api.Scale{From: -9})
		fill(v.Needs, api.Need{Source: -9})
		fill(v.Crops, api.Crop{Source: -9})
		fill(v.Findings, api.Finding{Source: -9})
		fill(v.Mades, api.Made{Source: -9})
	}
}

func fill[T any](l []T, x T) {
	l = l[:cap(l)]
	for i := range l {
		l[i] = x
	}
}

// TestNilAndEmpty: R3, and reliefs without entries, or without scales.
func TestNilAndEmpty(t *testing.T) {
	empty := api.Relief{Scales: []api.Scale{}, Needs: []api.Need{}, Crops: []api.Crop{}, Findings: []api.Finding{}, Mades: []api.Made{}}
	for _, r := range []api.Relief{{}, empty, {Scales: []api.Scale{aScale()}}} {
		for _, l := range [][]int{nil, {}} {
			wantError(t, r, api.OK, relief.Check(r))
			wantList(t, r, l, api.OK)(relief.Families(r, 0))
			wantList(t, r, l, api.OK)(relief.Dates(r))
			want(t, r, 0, api.OK)(relief.Wants(r, 1, 100, 0))
			want(t, r, span(0, 0), api.OK)(relief.Bread(r, 99, 595, 4166))
			want(t, r, span(0, 0), api.OK)(relief.Carried(r, 99, 595, 4166))
			wantList(t, r, l, api.OK)(relief.Counted(r, 1, 0))
			wantError(t, r, api.OK, relief.CheckCrops(r, 1, 0, l))
			wantError(t, r, api.ErrCrops, relief.CheckCrops(r, 1, 0, list(0)))
			want(t, r, 0, api.OK)(relief.Truly(r, 1, 100, 0, l))
			want(t, r, account(0, 0), api.OK)(relief.Stands(r, 1, 4166))
			wantList(t, r, []api.Posting{}, api.OK)(relief.Posts(r, list(0, 4166)))
			wantList(t, r, []api.Posting{}, api.OK)(relief.Posts(r, l))
			wantError(t, r, api.OK, relief.CheckPosts(r, l, nil))
			wantError(t, r, api.OK, relief.CheckPosts(r, l, []api.Posting{}))
			wantError(t, r, api.ErrPosts, relief.CheckPosts(r, l, []api.Posting{{}}))
			want(t, r, account(0, 0), api.OK)(relief.Balance(r, l, 1))
			wantList(t, r, l, api.ErrNone)(relief.Moved(r, 1, 0))
			wantRelief(t, r, api.Relief{Scales: r.Scales, Findings: []api.Finding{aFinding()}}, api.OK)(relief.Found(r, aFinding()))
		}
	}
	r := example()
	r.Scales = nil
	want(t, "without scales", span(0, 0), api.OK)(relief.Bread(r, 7, 2, 14))
	want(t, "without scales", span(16, 26), api.OK)(relief.Carried(r, 7, 4, 25))
	want(t, "without scales", account(0, 6), api.OK)(relief.Stands(r, 7, 30))
}

// TestAnyArguments: P1: no call panics, whatever the numbers are.
func TestAnyArguments(t *testing.T) {
	odd := list(math.MinInt, math.MinInt+1, -1, 0, 1, 2, 7, 12, 99, 100, 595, 596, 4166, 4167, 99999, 100000, 100001, math.MaxInt-1, math.MaxInt)
	r := rand.New(rand.NewSource(60))
	one := func() int { return odd[r.Intn(len(odd))] }
	few := func() []int { return list(one(), one(), one(), one())[:r.Intn(5)] }
	for range 20000 {
		a := right()
		a.s = api.Scale{From: one(), Bread: one()}
		a.n = api.Need{Source: one(), Family: one(), Week: one(), Heads: one(), Known: one(), Until: one()}
		a.c = api.Crop{Source: one(), Family: one(), Week: one(), Gallons: span(one(), one()), Known: one(), Until: one()}
		a.f = api.Finding{Source: one(), Family: one(), From: one(), To: one(), Known: one(), Until: one()}
		a.m = api.Made{Source: one(), Family: one(), Gallons: one(), Known: one(), Until: one()}
		if r.Intn(2) == 0 {
			a.r = api.Relief{Scales: []api.Scale{a.s}, Needs: []api.Need{a.n}, Crops: []api.Crop{a.c}, Findings: []api.Finding{a.f}, Mades: []api.Made{a.m}}
		}
		a.family, a.week, a.known, a.source, a.gallons, a.days = one(), one(), one(), one(), few(), few()
		a.l = []api.Posting{post(one(), one(), one(), one()), post(one(), one(), one(), one())}[:r.Intn(3)]
		for _, c := range calls() {
			if got, e := c.do(a); e != api.OK && !isZero(got) {
				t.Fatalf("%s, %+v: %v beside the error %d", c.name, a, got, e)
			}
		}
	}
}

// TestLongLists: lists that are much longer than what they could be.
func TestLongLists(t *testing.T) {
	r := example()
	wantError(t, "gallons", api.ErrCrops, relief.CheckCrops(r, 7, 25, make([]int, 1000000)))
	wantError(t, "postings", api.ErrPosts, relief.CheckPosts(r, list(15), make([]api.Posting, 1000000)))
	wantError(t, "days", api.ErrDay, relief.CheckPosts(r, make([]int, 1000000), nil))
	want(t, "days", account(0, 0), api.ErrDay)(relief.Balance(r, numbers(0, 4166), 7))
	for _, long := range []api.Relief{
		{Scales: make([]api.Scale, 1000000)}, {Needs: make([]api.Need, 1000000)}, {Crops: make([]api.Crop, 1000000)},
		{Findings: make([]api.Finding, 1000000)}, {Mades: make([]api.Made, 1000000)},
	} {
		wantError(t, "relief", api.ErrRelief, relief.Check(long))
	}
}
