package drift_test

import (
	"math"
	"reflect"
	"slices"
	"testing"

	"leazing/api"
	"leazing/drift"
)

// args is what a call takes beside a ground; not all calls take all of it.
type args struct {
	l        []api.Claim
	day      int
	links    []int
	than     api.Gain
	one, two api.Drift
	drifts   []api.Drift
	wall     api.Wall
	crowd    api.Crowd
}

// call is a call of a function that takes a ground: the errors that its arguments may have, in the order in which they are named, and what it returns.
type call struct {
	name string
	may  []api.Errno
	do   func(g api.Ground, a args) (any, api.Errno)
}

func two[T any](x T, e api.Errno) (any, api.Errno) { return x, e }

func errors(list ...api.Errno) []api.Errno { return list }

// calls are those of all functions that take a ground.
func calls() []call {
	const claims, day, arg, one, narrow = api.ErrClaims, api.ErrDay, api.ErrArg, api.ErrDrift, api.ErrNarrow
	return []call{
		{"Check", nil, func(g api.Ground, a args) (any, api.Errno) { return nil, drift.Check(g) }},
		{"CheckClaims", errors(claims), func(g api.Ground, a args) (any, api.Errno) { return nil, drift.CheckClaims(g, a.l) }},
		{"Turn", errors(claims, day), func(g api.Ground, a args) (any, api.Errno) { return two(drift.Turn(g, a.l, a.day)) }},
		{"Length", errors(one), func(g api.Ground, a args) (any, api.Errno) { return two(drift.Length(g, a.one)) }},
		{"Longer", errors(one), func(g api.Ground, a args) (any, api.Errno) { return two(drift.Longer(g, a.one, a.two)) }},
		{"Longer, turned", errors(one), func(g api.Ground, a args) (any, api.Errno) { return two(drift.Longer(g, a.two, a.one)) }},
		{"Truly", errors(arg, one), func(g api.Ground, a args) (any, api.Errno) { return two(drift.Truly(g, a.links, a.one)) }},
		{"Worth", errors(one), func(g api.Ground, a args) (any, api.Errno) { return two(drift.Worth(g, a.one)) }},
		{"CheckDrifts", errors(claims), func(g api.Ground, a args) (any, api.Errno) { return nil, drift.CheckDrifts(g, a.l, a.drifts) }},
		{"Gains", errors(claims), func(g api.Ground, a args) (any, api.Errno) { return two(drift.Gains(g, a.l, a.drifts)) }},
		{"Least", errors(claims, narrow), func(g api.Ground, a args) (any, api.Errno) { return two(drift.Least(g, a.l)) }},
		{"Share", errors(claims, narrow), func(g api.Ground, a args) (any, api.Errno) { return two(drift.Share(g, a.l)) }},
		{"Wall", errors(claims, narrow), func(g api.Ground, a args) (any, api.Errno) { return two(drift.Wall(g, a.l)) }},
		{"CheckWall", errors(claims, arg), func(g api.Ground, a args) (any, api.Errno) { return nil, drift.CheckWall(g, a.l, a.wall, a.than) }},
		{"Crowded", errors(claims), func(g api.Ground, a args) (any, api.Errno) { return two(drift.Crowded(g, a.l)) }},
		{"CheckCrowd", errors(claims), func(g api.Ground, a args) (any, api.Errno) { return nil, drift.CheckCrowd(g, a.l, a.crowd) }},
		{"Moved", errors(claims), func(g api.Ground, a args) (any, api.Errno) { return two(drift.Moved(g, a.l)) }},
	}
}

// right returns arguments for the ground of the examples that are right for all calls but Crowded and CheckCrowd.
func right() args {
	return args{
		l: claims(), day: 4166, links: list(98, 100), than: api.Gain{Num: 4, Den: 1},
		one: cells(0, 4), two: cells(2, 2), drifts: row(0, 1, 2, 2, 3, 4),
		wall: api.Wall{Starts: list(0, 2, 3, 6)}, crowd: api.Crowd{Last: 2},
	}
}

// wrongs has, for errors of arguments, what leads to them. What is wrong with claims stands last, as it is done to those that are too narrow too.
var wrongs = []struct {
	e  api.Errno
	do []func(a *args)
}{
	{api.ErrDay, []func(a *args){
		func(a *args) { a.day = -1 },
		func(a *args) { a.day = 4167 },
		func(a *args) { a.day = math.MinInt },
		func(a *args) { a.day = math.MaxInt },
	}},
	{api.ErrArg, []func(a *args){
		func(a *args) { a.links, a.than.Den = nil, 0 },
		func(a *args) { a.links, a.than.Den = list(98), -1 },
		func(a *args) { a.links, a.than.Den = list(98, 99, 100), 1000001 },
		func(a *args) { a.links, a.than.Num = list(97, 99), -1 },
		func(a *args) { a.links, a.than.Num = list(103, 99), 1000001 },
		func(a *args) { a.links, a.than.Num = list(98, math.MaxInt), math.MaxInt },
		func(a *args) { a.links, a.than.Num = list(math.MinInt, 99), math.MinInt },
		func(a *args) { a.links, a.than.Den = list(98, 101), math.MinInt },
		func(a *args) { a.links, a.than.Den = list(98, 98), math.MaxInt },
	}},
	{api.ErrDrift, []func(a *args){
		func(a *args) { a.one = cells(-1, 0) },
		func(a *args) { a.one = cells(2, 1) },
		func(a *args) { a.one = cells(4, 5) },
		func(a *args) { a.one = cells(5, 5) },
		func(a *args) { a.one = cells(0, math.MaxInt) },
		func(a *args) { a.one = cells(math.MinInt, math.MaxInt) },
		func(a *args) { a.one = cells(math.MaxInt, math.MinInt) },
	}},
	{api.ErrNarrow, []func(a *args){
		func(a *args) { a.l[0].From, a.l[0].To, a.l[1].From, a.l[1].To = 3, 3, 3, 3 },
		func(a *args) { a.l[1].From, a.l[2].To = 4, 4 },
		func(a *args) { a.l[0].From, a.l[1].To = 3, 2 },
	}},
	{api.ErrClaims, []func(a *args){
		func(a *args) { a.l = nil },
		func(a *args) { a.l[2].To = 5 },
		func(a *args) { a.l[0].Family = 9 },
		func(a *args) { a.l[1].Heads = 21 },
		func(a *args) { a.l[1].From = math.MinInt },
	}},
}

// mixes calls try with all mixes of right and wrong arguments, and which errors they have.
func mixes(try func(a args, has map[api.Errno]bool)) {
	var mix func(do []func(a *args), has map[api.Errno]bool)
	mix = func(do []func(a *args), has map[api.Errno]bool) {
		if len(do) == len(wrongs) {
			a := right()
			for _, change := range do {
				change(&a)
			}
			try(a, has)
			return
		}
		w := wrongs[len(do)]
		mix(append(slices.Clone(do), func(a *args) {}), has)
		has[w.e] = true
		for _, wrong := range w.do {
			mix(append(slices.Clone(do), wrong), has)
		}
		delete(has, w.e)
	}
	mix(nil, map[api.Errno]bool{})
}

func wrongGrounds() []api.Ground {
	odd, less, more := ground(), ground(), ground()
	odd.Cells[3].Chain = 3
	less.Chains[0].Link.Lo = 0
	more.Cells[4].Worth = 10001
	return []api.Ground{{}, {Chains: ground().Chains}, {Cells: ground().Cells}, odd, less, more}
}

// isZero tells whether a result is a zero value; lists in it may be empty.
func isZero(x any) bool {
	if w, ok := x.(api.Wall); ok {
		return w.First == 0 && len(w.Starts) == 0
	}
	v := reflect.ValueOf(x)
	return !v.IsValid() || v.IsZero() || v.Kind() == reflect.Slice && v.Len() == 0
}

// TestFirstError: P1 and R1: of several errors the one is returned that is named first, before those that a call has beside; R2: with an error, other results are zero values.
func TestFirstError(t *testing.T) {
	mixes(func(a args, has map[api.Errno]bool) {
		for i, g := range append(wrongGrounds(), ground()) {
			for _, c := range calls() {
				wantFirst := verdict(i == len(wrongGrounds()), api.ErrGround)
				for _, e := range c.may {
					if wantFirst == api.OK && has[e] {
						wantFirst = e
					}
				}
				checkCall(t, c, g, a, wantFirst)
				if wantFirst != api.OK && wantFirst != api.ErrNarrow {
					a.drifts, a.wall, a.crowd = nil, api.Wall{First: -1}, api.Crowd{First: -1}
					checkCall(t, c, g, a, wantFirst)
				}
			}
		}
	})
}

// checkCall wants a call to return an error; if that is OK, none that its arguments may have.
func checkCall(t *testing.T, c call, g api.Ground, a args, wantFirst api.Errno) {
	t.Helper()
	got, e := c.do(g, a)
	named := e == api.ErrGround || slices.Contains(c.may, e)
	if wantFirst != api.OK && e != wantFirst || wantFirst == api.OK && named {
		t.Fatalf("%s, %+v, %+v: error %d, want %d", c.name, g, a, e, wantFirst)
	}
	if e != api.OK && !isZero(got) {
		t.Fatalf("%s, %+v, %+v: %v beside the error %d", c.name, g, a, got, e)
	}
}

// TestOwnErrors: what the calls answer to arguments that are right, and the errors that they have beside those of arguments.
func TestOwnErrors(t *testing.T) {
	a, b := right(), right()
	b.drifts, b.wall.Starts[3] = row(0, 1, 1, 1, 3, 4), 5
	for _, c := range calls() {
		wantRight, wantWrong := api.OK, api.OK
		switch c.name {
		case "Crowded", "CheckCrowd":
			wantRight, wantWrong = api.ErrWide, api.ErrWide
		case "CheckDrifts", "Gains":
			wantWrong = api.ErrDrifts
		case "CheckWall":
			wantWrong = api.ErrWall
		}
		got, e := c.do(ground(), a)
		if e != wantRight || e != api.OK && !isZero(got) {
			t.Errorf("%s: %v, error %d, want %d", c.name, got, e, wantRight)
		}
		got, e = c.do(ground(), b)
		if e != wantWrong || e != api.OK && !isZero(got) {
			t.Errorf("%s: %v, error %d, want %d", c.name, got, e, wantWrong)
		}
	}
}

// spacious returns a copy of a list in memory that has room behind it, and all that memory.
func spacious[T any](l []T) ([]T, []T) {
	whole := append(slices.Clone(l), make([]T, 20)...)
	return whole[:len(l)], whole
}

// TestMemory: R4: results share no memory with arguments, and arguments are not changed, nor what lies behind them.
func TestMemory(t *testing.T) {
	crowded := right()
	crowded.l[0].From, crowded.l[0].To, crowded.l[1].From, crowded.l[1].To = 3, 3, 3, 3
	for _, a := range []args{right(), crowded, {l: claims()[:1], day: 1}} {
		for _, day := range list(0, 1, 2, 3) {
			for _, c := range calls() {
				checkMemory(t, c, a, day)
			}
		}
	}
}

func checkMemory(t *testing.T, c call, a args, day int) {
	t.Helper()
	a.day = day
	g, same := ground(), ground()
	fresh, e := c.do(g, a)
	var memory [6]any
	sameA := a
	g.Chains, memory[0] = spacious(same.Chains)
	g.Cells, memory[1] = spacious(same.Cells)
	a.l, memory[2] = spacious(sameA.l)
	a.links, memory[3] = spacious(sameA.links)
	a.drifts, memory[4] = spacious(sameA.drifts)
	a.wall.Starts, memory[5] = spacious(sameA.wall.Starts)
	first, f := c.do(g, a)
	if e != f || !reflect.DeepEqual(first, fresh) {
		t.Errorf("%s: %v, error %d, and then %v, error %d", c.name, fresh, e, first, f)
	}
	spoil(first)
	var want [6]any
	_, want[0] = spacious(same.Chains)
	_, want[1] = spacious(same.Cells)
	_, want[2] = spacious(sameA.l)
	_, want[3] = spacious(sameA.links)
	_, want[4] = spacious(sameA.drifts)
	_, want[5] = spacious(sameA.wall.Starts)
	if !reflect.DeepEqual(memory, want) {
		t.Errorf("%s changes its arguments, or returns their memory", c.name)
	}
	if again, h := c.do(g, a); h != f || !reflect.DeepEqual(again, fresh) {
		t.Errorf("%s: %v, and then %v", c.name, fresh, again)
	}
}

// spoil changes all that a result has, beyond its lists too.
func spoil(x any) {
	switch v := x.(type) {
	case []int:
		fill(v, -9)
	case []api.Drift:
		fill(v, cells(-9, -9))
	case []api.Claim:
		fill(v, api.Claim{Family: -9})
	case []api.Gain:
		fill(v, api.Gain{Num: -9})
	case api.Wall:
		fill(v.Starts, -9)
	}
}

func fill[T any](l []T, x T) {
	l = l[:cap(l)]
	for i := range l {
		l[i] = x
	}
}

// TestNilAndEmpty: R3.
func TestNilAndEmpty(t *testing.T) {
	for _, g := range []api.Ground{{}, {Chains: []api.Chain{}, Cells: []api.Cell{}}, {Chains: ground().Chains, Cells: []api.Cell{}}, {Chains: []api.Chain{}, Cells: ground().Cells}} {
		for _, c := range calls() {
			checkCall(t, c, g, right(), api.ErrGround)
		}
	}
	for _, l := range [][]api.Claim{nil, {}} {
		wantError(t, l, api.ErrClaims, drift.CheckClaims(ground(), l))
	}
	for _, links := range [][]int{nil, {}} {
		want(t, links, 0, api.ErrArg)(drift.Truly(ground(), links, cells(0, 0)))
		wantError(t, links, api.ErrWall, drift.CheckWall(ground(), claims(), api.Wall{Starts: links}, api.Gain{Den: 1}))
	}
	for _, drifts := range [][]api.Drift{nil, {}} {
		wantError(t, drifts, api.ErrDrifts, drift.CheckDrifts(ground(), claims(), drifts))
		wantList(t, drifts, []api.Gain{}, api.ErrDrifts)(drift.Gains(ground(), claims(), drifts))
	}
}

// TestAnyArguments: P1: no call panics, whatever the numbers are.
func TestAnyArguments(t *testing.T) {
	odd := list(math.MinInt, math.MinInt+1, -1, 0, 1, 24, 25, 26, math.MaxInt-1, math.MaxInt)
	for _, m := range odd {
		for _, n := range odd {
			a := args{l: []api.Claim{{Family: m, Heads: n, From: m, To: n}}, day: m, links: list(m, n), than: api.Gain{Num: m, Den: n}, one: cells(m, n), two: cells(n, m)}
			a.drifts, a.wall, a.crowd = []api.Drift{a.one, a.two, a.one}, api.Wall{First: m, Starts: list(n, m, n, m)}, api.Crowd{First: m, Last: n}
			b, g := a, ground()
			b.l = claims()
			g.Chains[0] = api.Chain{Id: m, Link: api.Range{Lo: n, Hi: m}}
			g.Cells[0] = api.Cell{Chain: n, Links: m, Worth: n}
			for _, c := range calls() {
				for _, x := range []args{a, b} {
					for _, h := range []api.Ground{ground(), g} {
						if got, e := c.do(h, x); e != api.OK && !isZero(got) {
							t.Errorf("%s, %+v, %+v: %v beside the error %d", c.name, h, x, got, e)
						}
					}
				}
			}
			drift.CheckChain(g.Chains[0])
			drift.CheckCell(g.Cells[0])
			drift.CheckClaim(a.l[0])
			drift.Compare(a.than, api.Gain{Num: n, Den: m})
		}
	}
}
