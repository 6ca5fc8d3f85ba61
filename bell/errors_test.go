package bell_test

import (
	"math"
	"math/rand"
	"reflect"
	"slices"
	"strings"
	"testing"

	"leazing/api"
	"leazing/bell"
)

// P9.1, and R1 to R4: errors and their order, results beside them, and memory.

// args is what the calls take; not all calls take all of it.
type args struct {
	b           api.Border
	w           api.Watch
	p           api.Peal
	me          int
	borders     []api.Border
	field, open int // one to ask for, and to open; and one to shut
	other, to   int
	left        int
	crew        []api.Watch
	strokes     []api.Stroke
	text        string
}

// fault is what can be wrong with arguments.
type fault int

const (
	borderFault fault = iota
	watchFault
	pealFault
	meFault
	bordersFault
	mineFault
	noFieldFault
	otherFault
	toFault
	rungFault
	shutFault
	tallyFault
	longFault
	crewFault
	strokesFault
	textFault
	formFault
	saidFault
)

// errorOf returns the error of what is wrong with arguments.
func errorOf(f fault) api.Errno {
	return []api.Errno{
		api.ErrBorder, api.ErrWatch, api.ErrPeal, api.ErrArg, api.ErrBorder, api.ErrMine, api.ErrMine, api.ErrArg, api.ErrArg,
		api.ErrRung, api.ErrShut, api.ErrTally, api.ErrLong, api.ErrCrew, api.ErrStroke, api.ErrLong, api.ErrText, api.ErrStroke,
	}[f]
}

// call is a call of a function: what can be wrong with its arguments, in the order in which the errors are named, and what it returns.
type call struct {
	name string
	may  []fault
	do   func(a args) ([]any, api.Errno)
}

func no(e api.Errno) ([]any, api.Errno) { return nil, e }

func one[T any](x T, e api.Errno) ([]any, api.Errno) { return []any{x}, e }

// calls are those of all functions that the chapter lists.
func calls() []call {
	return []call{
		{"CheckBorder", list(borderFault), func(a args) ([]any, api.Errno) { return no(bell.CheckBorder(a.b)) }},
		{"Check", list(watchFault), func(a args) ([]any, api.Errno) { return no(bell.Check(a.w)) }},
		{"CheckPeal", list(pealFault), func(a args) ([]any, api.Errno) { return no(bell.CheckPeal(a.p)) }},
		{"New", list(meFault, bordersFault), func(a args) ([]any, api.Errno) { return one(bell.New(a.me, a.borders)) }},
		{"Number", list(watchFault, mineFault, otherFault), func(a args) ([]any, api.Errno) { return one(bell.Number(a.w, a.field, a.other)) }},
		{"Holds", list(watchFault, mineFault, otherFault), func(a args) ([]any, api.Errno) { return one(bell.Holds(a.w, a.field, a.other)) }},
		{"Clean", list(watchFault, mineFault, otherFault), func(a args) ([]any, api.Errno) { return one(bell.Clean(a.w, a.field, a.other)) }},
		{"IsOpen", list(watchFault, mineFault), func(a args) ([]any, api.Errno) { return one(bell.IsOpen(a.w, a.field)) }},
		{"Wanted", list(watchFault, mineFault), func(a args) ([]any, api.Errno) { return one(bell.Wanted(a.w, a.field)) }},
		{"Asked", list(watchFault, mineFault), func(a args) ([]any, api.Errno) { return one(bell.Asked(a.w, a.field)) }},
		{"Missing", list(watchFault, mineFault), func(a args) ([]any, api.Errno) { return one(bell.Missing(a.w, a.field)) }},
		{"Want", list(watchFault, mineFault, rungFault, longFault), func(a args) ([]any, api.Errno) { return one(bell.Want(a.w, a.field)) }},
		{"Ring", list(watchFault, mineFault, rungFault, tallyFault, longFault), func(a args) ([]any, api.Errno) { return one(bell.Ring(a.w, a.field)) }},
		{"Shut", list(watchFault, mineFault, shutFault, longFault), func(a args) ([]any, api.Errno) { return one(bell.Shut(a.w, a.open)) }},
		{"Serve", list(watchFault, longFault), func(a args) ([]any, api.Errno) { return one(bell.Serve(a.w)) }},
		{"Bind", list(watchFault), func(a args) ([]any, api.Errno) { return one(bell.Bind(a.w)) }},
		{"Tear", list(watchFault), func(a args) ([]any, api.Errno) { return one(bell.Tear(a.w, a.left)) }},
		{"Recopy", list(watchFault), func(a args) ([]any, api.Errno) { return one(bell.Recopy(a.w)) }},
		{"Tell", list(watchFault, toFault), func(a args) ([]any, api.Errno) { return one(bell.Tell(a.w, a.to)) }},
		{"Hear", list(watchFault, pealFault, longFault), func(a args) ([]any, api.Errno) { return one(bell.Hear(a.w, a.p)) }},
		{"Who", list(crewFault, noFieldFault), func(a args) ([]any, api.Errno) { return one(bell.Who(a.crew, a.field)) }},
		{"Print", list(strokesFault), func(a args) ([]any, api.Errno) { return one(bell.Print(a.strokes)) }},
		{"Parse", list(textFault, formFault, saidFault), func(a args) ([]any, api.Errno) {
			l, _, e := bell.Parse(a.text)
			return one(l, e)
		}},
	}
}

// right returns arguments by which no call has an error: the parish 1 has the tallies of the field 7, others ask for them, and the field 8 is open.
func right() args {
	borders := list(border(7, 0, 1, 3), border(8, 1, 2))
	w := api.Watch{Me: 1, Borders: borders, Strokes: list(asked(7, 0, 1), tally(7, 0, 1), tally(8, 2, 4), bells(8, 1), asked(7, 3, 1)), Bound: 2}
	return args{
		b: border(7, 0, 1), w: w, p: api.Peal{From: 3, To: 1, Told: list(told(7, 2, 3), told(9, 2, 3))},
		me: 2, borders: list(border(8, 1, 2)), field: 7, open: 8, other: 3, to: 0, left: 2,
		crew:    list(watch(0, bells(7, 1)), watch(1), watch(3)),
		strokes: list(wants(7, 1), bells(7, 1)), text: "# a text\nwants 7 1\nbell 7 1\n",
	}
}

// fill fills the book of a watch.
func fill(a *args) {
	a.w.Strokes = slices.Clone(a.w.Strokes)
	for no := 1; len(a.w.Strokes) < 120; no++ {
		a.w.Strokes = append(a.w.Strokes, asked(8, 2, no))
	}
}

// wrong is a change of arguments, and what is wrong with them then.
type wrong struct {
	faults []fault
	do     func(a *args)
}

// wrongs are groups of changes, of which each mix has at most one.
func wrongs() [][]wrong {
	return [][]wrong{
		{{list(borderFault), func(a *args) { a.b.Field = 0 }}, {list(borderFault), func(a *args) { a.b.Parishes = 4 }}},
		{{list(tallyFault), func(a *args) { a.w.Strokes = append(slices.Clone(a.w.Strokes), tally(7, 3, 1)) }}},
		{{list(longFault), fill}},
		{
			{list(watchFault), func(a *args) { a.w.Bound = -1 }},
			{list(watchFault), func(a *args) { a.w.Strokes = append(slices.Clone(a.w.Strokes), bells(8, 1)) }},
			{list(watchFault), func(a *args) { a.w.Borders = list(a.w.Borders[1], a.w.Borders[0]) }},
		},
		{
			{list(pealFault), func(a *args) { a.p.From = 1 }},
			{list(pealFault), func(a *args) { a.p.From, a.p.To, a.p.Told = -1, 6, slices.Repeat(a.p.Told, 3) }},
		},
		{{list(meFault), func(a *args) { a.me = 6 }}, {list(meFault), func(a *args) { a.me = -1 }}},
		{
			{list(bordersFault), func(a *args) { a.borders = list(border(8, 1, 3)) }},
			{list(bordersFault), func(a *args) { a.borders = slices.Repeat(list(border(8, 1, 2)), 5) }},
		},
		{
			{list(mineFault), func(a *args) { a.field, a.open = 9, 9 }},
			{list(mineFault, noFieldFault), func(a *args) { a.field, a.open = 0, 0 }},
			{list(mineFault, noFieldFault), func(a *args) { a.field, a.open = 100, math.MinInt }},
			{list(rungFault, shutFault), func(a *args) { a.field, a.open, a.other = 8, 7, 2 }},
		},
		{
			{list(otherFault), func(a *args) { a.other = 5 }},
			{list(otherFault), func(a *args) { a.other = 1 }},
			{list(otherFault), func(a *args) { a.other = math.MaxInt }},
		},
		{
			{list(toFault), func(a *args) { a.to = 1 }},
			{list(toFault), func(a *args) { a.to = 6 }},
			{list(toFault), func(a *args) { a.to = -1 }},
		},
		{
			{list(crewFault), func(a *args) { slices.Reverse(a.crew) }},
			{list(crewFault), func(a *args) { a.crew[2].Bound = 1 }},
		},
		{
			{list(strokesFault, textFault), func(a *args) { a.strokes[1].No, a.text = 2, strings.Repeat("#", 8001) }},
			{list(strokesFault, formFault), func(a *args) { a.strokes, a.text = slices.Repeat(a.strokes, 61), "bell 0 7\nbell\n" }},
			{list(strokesFault, saidFault), func(a *args) { a.strokes[0], a.text = api.Stroke{}, "bell 0 7\n" }},
		},
	}
}

// mixes calls try with all mixes of right arguments and at most three changes of them, and what is wrong then.
func mixes(try func(a args, has map[fault]bool)) {
	all := wrongs()
	var mix func(next int, do []wrong)
	mix = func(next int, do []wrong) {
		a, has := right(), map[fault]bool{}
		for _, w := range do {
			w.do(&a)
			for _, f := range w.faults {
				has[f] = true
			}
		}
		try(a, has)
		if len(do) == 3 {
			return
		}
		for i := next; i < len(all); i++ {
			for _, w := range all[i] {
				mix(i+1, append(slices.Clone(do), w))
			}
		}
	}
	mix(0, nil)
}

// isZero tells whether results are zero values; lists in them may be empty.
func isZero(results []any) bool {
	for _, x := range results {
		if !same(x, reflect.Zero(reflect.TypeOf(x)).Interface()) {
			return false
		}
	}
	return true
}

// TestFirstError: P1 and R1: of several errors the one is returned that is named first; R2: with an error, other results are zero values.
func TestFirstError(t *testing.T) {
	tried := map[string]int{}
	mixes(func(a args, has map[fault]bool) {
		for _, c := range calls() {
			due := api.OK
			for _, f := range c.may {
				if due == api.OK && has[f] {
					due = errorOf(f)
				}
			}
			got, e := c.do(a)
			if e != due {
				t.Fatalf("%s, %s: error %d, want %d", c.name, short(a), e, due)
			}
			if e != api.OK && !isZero(got) {
				t.Fatalf("%s, %s: %s beside the error %d", c.name, short(a), short(got), e)
			}
			if e != api.OK {
				tried[c.name]++
			}
		}
	})
	for _, c := range calls() {
		if tried[c.name] < 50 {
			t.Error(c.name, "tried:", tried[c.name])
		}
	}
}

// piece is a part of memory.
type piece struct{ from, to uintptr }

// pieces returns the memory of all lists in a value, with the room behind them.
func pieces(v reflect.Value) []piece {
	var all []piece
	switch v.Kind() {
	case reflect.Slice:
		if size := v.Type().Elem().Size() * uintptr(v.Cap()); size > 0 {
			all = append(all, piece{v.Pointer(), v.Pointer() + size})
		}
		for i := range v.Len() {
			all = append(all, pieces(v.Index(i))...)
		}
	case reflect.Struct:
		for i := range v.NumField() {
			all = append(all, pieces(v.Field(i))...)
		}
	case reflect.Interface:
		all = append(all, pieces(v.Elem())...)
	}
	return all
}

// shares tells whether two of some pieces have a part in common, of which at least one is new.
func shares(news, olds []piece) bool {
	for i, a := range news {
		for _, b := range slices.Concat(news[i+1:], olds) {
			if a.from < b.to && b.from < a.to {
				return true
			}
		}
	}
	return false
}

// spacious returns a copy of a list with room behind it.
func spacious[T any](l []T) []T { return append(slices.Clone(l), make([]T, 20)...)[:len(l)] }

// roomy returns arguments whose lists all have room behind them.
func roomy(a args) args {
	a.w.Borders, a.w.Strokes, a.p.Told = spacious(a.w.Borders), spacious(a.w.Strokes), spacious(a.p.Told)
	a.borders, a.strokes, a.crew = spacious(a.borders), spacious(a.strokes), spacious(a.crew)
	for i, w := range a.crew {
		a.crew[i].Borders, a.crew[i].Strokes = spacious(w.Borders), spacious(w.Strokes)
	}
	return a
}

// wholeOf returns a copy of all that is in the lists of arguments, and in the room behind them.
func wholeOf(a args) []any {
	whole := []any{slices.Clone(a.p.Told[:cap(a.p.Told)]), slices.Clone(a.borders[:cap(a.borders)]), slices.Clone(a.strokes[:cap(a.strokes)])}
	for _, w := range append(slices.Clone(a.crew[:cap(a.crew)]), a.w) {
		whole = append(whole, w.Me, w.Bound, slices.Clone(w.Borders[:cap(w.Borders)]), slices.Clone(w.Strokes[:cap(w.Strokes)]))
	}
	return whole
}

// TestMemory: R4: results share no memory with arguments, nor two lists of a result; arguments are not changed, nor what lies behind them.
func TestMemory(t *testing.T) {
	changes := []func(a *args){
		func(a *args) {},
		func(a *args) { a.field, a.open = 8, 7 },
		func(a *args) { a.w.Strokes = append(a.w.Strokes, wants(7, 1)) },
		func(a *args) { a.w.Bound, a.left, a.p.Told = 5, 0, nil },
		func(a *args) { a.w.Bound, a.left = 0, 5 },
		func(a *args) { a.w.Strokes, a.w.Bound = nil, 0 },
		fill,
		func(a *args) { a.w.Bound, a.strokes[0].No, a.me, a.crew[1].Me = 9, 0, 6, 0 },
		func(a *args) { a.p.Told, a.borders = a.p.Told[1:], nil },
	}
	for i, change := range changes {
		for _, c := range calls() {
			a := right()
			change(&a)
			a = roomy(a)
			before := wholeOf(a)
			first, e := c.do(a)
			if shares(pieces(reflect.ValueOf(first)), pieces(reflect.ValueOf(a))) && len(first) > 0 {
				t.Errorf("%s, %d: results share memory", c.name, i)
			}
			if !reflect.DeepEqual(before, wholeOf(a)) {
				t.Errorf("%s, %d: changes its arguments", c.name, i)
			}
			second, f := c.do(a)
			if e != f || !reflect.DeepEqual(first, second) {
				t.Errorf("%s, %d: errors %d and %d; %s, and then %s", c.name, i, e, f, short(first), short(second))
			}
		}
	}
}

// TestNilAndEmpty: R3.
func TestNilAndEmpty(t *testing.T) {
	for _, none := range []api.Watch{{Me: 2}, {Me: 2, Borders: []api.Border{}, Strokes: []api.Stroke{}}} {
		wantError(t, none, api.OK, bell.Check(none))
		want(t, none, none, api.OK)(bell.New(2, none.Borders))
		want(t, none, none, api.OK)(bell.Serve(none))
		want(t, none, none, api.OK)(bell.Bind(none))
		want(t, none, none, api.OK)(bell.Tear(none, 7))
		want(t, none, none, api.OK)(bell.Recopy(none))
		want(t, none, false, api.ErrMine)(bell.IsOpen(none, 7))
		want(t, none, api.Watch{}, api.ErrMine)(bell.Want(none, 7))
		want(t, none, []int{}, api.OK)(bell.Who(list(none), 7))
		want(t, none, "", api.OK)(bell.Print(none.Strokes))
		for _, nothing := range [][]api.Told{nil, {}} {
			p := api.Peal{From: 1, To: 2, Told: nothing}
			wantError(t, p, api.OK, bell.CheckPeal(p))
			want(t, p, none, api.OK)(bell.Hear(none, p))
			want(t, none, api.Peal{From: 2, To: 1, Told: nothing}, api.OK)(bell.Tell(none, 1))
		}
	}
	want(t, "no watches", []int{}, api.OK)(bell.Who([]api.Watch{}, 7))
	empty := watch(1)
	empty.Strokes = []api.Stroke{}
	want(t, empty, with(empty, wants(7, 1)), api.OK)(bell.Want(empty, 7))
}

// TestAnyArguments: P1: no call panics, whatever the arguments are.
func TestAnyArguments(t *testing.T) {
	rounds(70, 6000, func(r *rand.Rand) {
		any := func() int { return oneOf(r, odd(r), odd(r), r.Intn(7)) }
		anyStroke := func() api.Stroke { return api.Stroke{Kind: any(), Field: any(), Other: any(), No: any()} }
		anyBorders := func() []api.Border {
			return list(api.Border{Field: any(), Parishes: any()}, api.Border{Field: any(), Parishes: any()}, border(50, 0, 1, 2, 3, 4, 5))[r.Intn(4):]
		}
		anyBook := func() api.Watch {
			w := oneOf(r, someWatch(r), mixedWatch(r), api.Watch{Me: any(), Borders: anyBorders(), Bound: any()})
			for range r.Intn(3) {
				w.Strokes = append(slices.Clone(w.Strokes), anyStroke())
			}
			return w
		}
		a := args{
			b: api.Border{Field: any(), Parishes: any()}, w: anyBook(), me: any(), borders: anyBorders(), field: any(), open: any(), other: any(), to: any(), left: any(),
			crew: list(anyBook(), anyBook())[r.Intn(3):], strokes: list(anyStroke(), anyStroke())[r.Intn(3):], text: oneOf(r, "bell 1 1\xff", "\x00", "tally 7 0", "-", "bell 1 1\nwants 1 1"),
		}
		a.p = api.Peal{From: any(), To: any(), Told: list(told(any(), any(), any()), told(any(), any(), any()))[r.Intn(3):]}
		for _, c := range calls() {
			if got, e := c.do(a); e != api.OK && !isZero(got) {
				t.Fatalf("%s, %s: %s beside the error %d", c.name, short(a), short(got), e)
			}
		}
	})
}

// TestLongLists: lists and texts that are much longer than what they could be.
func TestLongLists(t *testing.T) {
	const many = 1000000
	tried := 0
	for i, change := range []func(a *args){
		func(a *args) { a.w.Strokes = slices.Repeat(a.w.Strokes, many) },
		func(a *args) { a.w.Borders = slices.Repeat(a.w.Borders, many) },
		func(a *args) { a.p.Told = make([]api.Told, many) },
		func(a *args) { a.borders = make([]api.Border, many) },
		func(a *args) { a.crew = make([]api.Watch, many) },
		func(a *args) { a.strokes = slices.Repeat(a.strokes, many) },
		func(a *args) { a.text = strings.Repeat("bell 7 1\n", many) },
	} {
		a := right()
		change(&a)
		for _, c := range calls() {
			got, e := c.do(a)
			if e == api.OK {
				continue
			}
			tried++
			if !isZero(got) {
				t.Errorf("%s, %d: %s beside the error %d", c.name, i, short(got), e)
			}
		}
	}
	if tried < 30 {
		t.Error("tried:", tried)
	}
}
