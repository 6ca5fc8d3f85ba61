package book_test

import (
	"math"
	"math/rand"
	"reflect"
	"slices"
	"strings"
	"testing"

	"leazing/api"
	"leazing/book"
)

// P8.1, and R1 to R4: errors and their order, results beside them, and memory.

// args is what the calls take; not all calls take all of it.
type args struct {
	r            api.Record
	text         string
	no           int
	quire, other int
	s, o         api.Strip
	a, b         api.Book
	bound        api.Bound
	log          []api.Record
	picks        []int
	me           int
	p            api.Parish
	to, about    int
	l            api.Letter
}

// fault is what can be wrong with arguments.
type fault int

const (
	recordFault fault = iota
	textFault
	noFault
	quireFault
	stripFault
	bookFault
	otherBookFault
	logFault
	boundFault
	differFault
	gapFault
	longFault
	meFault
	parishFault
	toFault
	letterFault
)

// errorOf returns the error of what is wrong with the arguments of a function.
func errorOf(f fault, name string) api.Errno {
	switch {
	case f == logFault && name == "Sorted":
		return api.ErrBook
	case f == logFault:
		return api.ErrQuires
	}
	return []api.Errno{
		api.ErrRecord, api.ErrText, api.ErrArg, api.ErrArg, api.ErrStrip, api.ErrBook, api.ErrBook, 0,
		api.ErrQuires, api.ErrDiffer, api.ErrGap, api.ErrLong, api.ErrArg, api.ErrParish, api.ErrArg, api.ErrLetter,
	}[f]
}

// call is a call of a function: what can be wrong with its arguments, in the order in which the errors are named, and what it returns.
type call struct {
	name string
	may  []fault
	do   func(a args) ([]any, api.Errno)
}

func faults(list ...fault) []fault { return list }

func none1(e api.Errno) ([]any, api.Errno) { return nil, e }

func one[T any](x T, e api.Errno) ([]any, api.Errno) { return []any{x}, e }

func two[T, U any](x T, y U, e api.Errno) ([]any, api.Errno) { return []any{x, y}, e }

// calls are those of all functions that the chapter lists.
func calls() []call {
	return []call{
		{"CheckRecord", faults(recordFault), func(a args) ([]any, api.Errno) { return none1(book.CheckRecord(a.r)) }},
		{"Encode", faults(recordFault), func(a args) ([]any, api.Errno) { return one(book.Encode(a.r)) }},
		{"Decode", faults(textFault), func(a args) ([]any, api.Errno) { return one(book.Decode(a.text)) }},
		{"Thirds", faults(recordFault, noFault), func(a args) ([]any, api.Errno) { return one(book.Thirds(a.r, a.no)) }},
		{"CheckStrip", faults(quireFault, stripFault), func(a args) ([]any, api.Errno) { return none1(book.CheckStrip(a.quire, a.s)) }},
		{"Mend", faults(quireFault, stripFault), func(a args) ([]any, api.Errno) { return one(book.Mend(a.quire, a.s, a.other, a.o)) }},
		{"Mend, the other way round", faults(quireFault, stripFault), func(a args) ([]any, api.Errno) { return one(book.Mend(a.other, a.o, a.quire, a.s)) }},
		{"Check", faults(bookFault), func(a args) ([]any, api.Errno) { return none1(book.Check(a.a)) }},
		{"Sorted", faults(logFault), func(a args) ([]any, api.Errno) { return one(book.Sorted(a.log)) }},
		{"Add", faults(bookFault, recordFault, differFault, gapFault, longFault), func(a args) ([]any, api.Errno) { return one(book.Add(a.a, a.r)) }},
		{"Join", faults(bookFault, otherBookFault, differFault, longFault), func(a args) ([]any, api.Errno) { return one(book.Join(a.a, a.b)) }},
		{"Join, the other way round", faults(otherBookFault, bookFault, differFault, longFault), func(a args) ([]any, api.Errno) { return one(book.Join(a.b, a.a)) }},
		{"Have", faults(bookFault), func(a args) ([]any, api.Errno) { return one(book.Have(a.a)) }},
		{"CheckBound", faults(boundFault, logFault), func(a args) ([]any, api.Errno) { return none1(book.CheckBound(a.bound, a.log)) }},
		{"Write", faults(boundFault, logFault, recordFault, differFault, gapFault, longFault), func(a args) ([]any, api.Errno) { return two(book.Write(a.bound, a.log, a.r)) }},
		{"Sew", nil, func(a args) ([]any, api.Errno) { return one(book.Sew(a.bound), api.OK) }},
		{"Tear", nil, func(a args) ([]any, api.Errno) { return one(book.Tear(a.bound, a.picks), api.OK) }},
		{"Open", nil, func(a args) ([]any, api.Errno) {
			b, log := book.Open(a.bound)
			return two(b, log, api.OK)
		}},
		{"NewParish", faults(meFault), func(a args) ([]any, api.Errno) { return one(book.NewParish(a.me)) }},
		{"Note", faults(parishFault, recordFault, longFault), func(a args) ([]any, api.Errno) { return two(book.Note(a.p, a.r)) }},
		{"Send", faults(parishFault, toFault), func(a args) ([]any, api.Errno) { return two(book.Send(a.p, a.to, a.about)) }},
		{"Receive", faults(parishFault, letterFault, differFault, longFault), func(a args) ([]any, api.Errno) { return two(book.Receive(a.p, a.l)) }},
		{"Restart", faults(parishFault), func(a args) ([]any, api.Errno) { return one(book.Restart(a.p, a.picks)) }},
	}
}

// right returns arguments by which no call has an error: the parish 1 has records of 1, 2 and 4; two new ones of 2 come.
func right() args {
	log := []api.Record{{At: item(2, 0), Kind: 1, Text: "a"}, {At: item(1, 0), Kind: 2}, {At: item(2, 1), Kind: 3, Text: "bc"}, {At: item(4, 0), Kind: 4}}
	next := api.Record{At: item(2, 2), Kind: 5, Text: "new"}
	b := bookOf(append(slices.Clone(log[:3]), next))
	return args{
		r: next, text: keyText, no: 3, quire: 0, other: 2, s: keyStrips()[0], o: keyStrips()[2],
		a: bookOf(log), b: b, bound: sewn(wholeBound(log)), log: log, picks: list(1, 2, 3), me: 1,
		p:  api.Parish{Me: 1, Bound: wholeBound(log), Log: slices.Clone(log)},
		to: 3, about: 2,
		l: api.Letter{From: 2, To: 1, About: 2, Many: 9, First: 1, Records: []api.Record{log[2], next, {At: item(2, 3), Of: item(2, 0)}}},
	}
}

// wrong is a change of arguments, and what is wrong with them then.
type wrong struct {
	faults []fault
	do     func(a *args)
}

// wrongs are groups of changes, of which each mix has at most one.
func wrongs() [][]wrong {
	full := func(a *args) {
		for no := range 56 {
			a.log = append(slices.Clone(a.log), api.Record{At: item(5, no), Kind: 1})
		}
		a.a, a.bound = bookOf(a.log), sewn(wholeBound(a.log))
		a.p.Log, a.p.Bound = slices.Clone(a.log), wholeBound(a.log)
	}
	return [][]wrong{
		{{faults(longFault), full}},
		{
			{faults(differFault), func(a *args) {
				a.r = api.Record{At: item(2, 1), Kind: 3, Text: "bd"}
				a.b.Records[2], a.l.Records[0] = a.r, a.r
			}},
			{faults(gapFault), func(a *args) { a.r.At.No = 3 }},
		},
		{{faults(recordFault), func(a *args) { a.r.Kind = 61 }}, {faults(recordFault), func(a *args) { a.r.Text = "\x7f" }}},
		{
			{faults(textFault, noFault), func(a *args) { a.text, a.no = "0"+keyText, 60 }},
			{faults(textFault, noFault), func(a *args) { a.text, a.no = "", -1 }},
		},
		{
			{faults(quireFault), func(a *args) { a.quire = -1 }},
			{faults(quireFault), func(a *args) { a.quire = 3 }},
		},
		{{faults(stripFault), func(a *args) { a.s.Text = a.s.Text[1:] }}, {faults(stripFault), func(a *args) { a.s.Size, a.o.Text = 13, "" }}},
		{{faults(bookFault), func(a *args) { a.a.Records = a.a.Records[1:]; a.a.Records[0].At.No = 1 }}},
		{{faults(otherBookFault), func(a *args) { a.b.Records[0].Day = -1 }}},
		{{faults(logFault), func(a *args) { a.log = a.log[1:] }}, {faults(logFault), func(a *args) { a.log = append(slices.Clone(a.log), a.log[0]) }}},
		{{faults(boundFault), func(a *args) { a.bound.Sewn[1] = 61 }}, {faults(boundFault), func(a *args) { a.bound.Strips[2] = a.bound.Strips[2][1:] }}},
		{
			{faults(meFault, parishFault), func(a *args) { a.me, a.p.Me = 6, 6 }},
			{faults(meFault, parishFault), func(a *args) { a.me, a.p.Known[5][5] = -1, -1 }},
			{faults(meFault, parishFault), func(a *args) { a.me, a.p.Log = math.MaxInt, a.p.Log[1:] }},
		},
		{
			{faults(toFault, letterFault), func(a *args) { a.to, a.l.To = a.p.Me, 3 }},
			{faults(toFault, letterFault), func(a *args) { a.to, a.l.Many = 6, 61 }},
			{faults(toFault, letterFault), func(a *args) { a.about, a.l.Records[2].Day = -1, 1 }},
		},
	}
}

// mixes calls try with all mixes of right arguments and at most three changes of them, and what is wrong then.
func mixes(try func(a args, has map[fault]bool)) {
	all := wrongs()
	var mix func(next int, do []wrong)
	mix = func(next int, do []wrong) {
		a, has := right(), map[fault]bool{}
		for _, w := range do {
			w.do(&a)
			for _, f := range w.faults {
				has[f] = true
			}
		}
		try(a, has)
		if len(do) == 3 {
			return
		}
		for i := next; i < len(all); i++ {
			for _, w := range all[i] {
				mix(i+1, append(slices.Clone(do), w))
			}
		}
	}
	mix(0, nil)
}

// isZero tells whether results are zero values; lists in them may be empty.
func isZero(results []any) bool {
	for _, x := range results {
		switch v := x.(type) {
		case []api.Strip:
			if len(v) > 0 {
				return false
			}
		case []api.Record:
			if len(v) > 0 {
				return false
			}
		case []api.Letter:
			if len(v) > 0 {
				return false
			}
		default:
			if !same(x, reflect.Zero(reflect.TypeOf(x)).Interface()) {
				return false
			}
		}
	}
	return true
}

// TestFirstError: P1 and R1: of several errors the one is returned that is named first; R2: with an error, other results are zero values.
func TestFirstError(t *testing.T) {
	tried := map[string]int{}
	mixes(func(a args, has map[fault]bool) {
		for _, c := range calls() {
			due := api.OK
			for _, f := range c.may {
				if due == api.OK && has[f] {
					due = errorOf(f, c.name)
				}
			}
			got, e := c.do(a)
			if e != due {
				t.Fatalf("%s, %s: error %d, want %d", c.name, short(a), e, due)
			}
			if e != api.OK && !isZero(got) {
				t.Fatalf("%s, %s: %s beside the error %d", c.name, short(a), short(got), e)
			}
			if e != api.OK {
				tried[c.name]++
			}
		}
	})
	for _, c := range calls() {
		if len(c.may) > 0 && tried[c.name] < 50 {
			t.Error(c.name, "tried:", tried[c.name])
		}
	}
}

// piece is a part of memory.
type piece struct{ from, to uintptr }

// pieces returns the memory of all lists in a value, with the room behind them.
func pieces(v reflect.Value) []piece {
	var all []piece
	switch v.Kind() {
	case reflect.Slice:
		if size := v.Type().Elem().Size() * uintptr(v.Cap()); size > 0 {
			all = append(all, piece{v.Pointer(), v.Pointer() + size})
		}
		fallthrough
	case reflect.Array:
		for i := range v.Len() {
			all = append(all, pieces(v.Index(i))...)
		}
	case reflect.Struct:
		for i := range v.NumField() {
			all = append(all, pieces(v.Field(i))...)
		}
	case reflect.Interface:
		all = append(all, pieces(v.Elem())...)
	}
	return all
}

// shares tells whether two of some pieces have a part in common, of which at least one is new.
func shares(news, olds []piece) bool {
	for i, a := range news {
		for _, b := range slices.Concat(news[i+1:], olds) {
			if a.from < b.to && b.from < a.to {
				return true
			}
		}
	}
	return false
}

// spacious returns a copy of a list with room behind it.
func spacious[T any](l []T) []T { return append(slices.Clone(l), make([]T, 20)...)[:len(l)] }

// roomy returns arguments whose lists all have room behind them.
func roomy(a args) args {
	for quire := range 3 {
		a.bound.Strips[quire] = spacious(a.bound.Strips[quire])
		a.p.Bound.Strips[quire] = spacious(a.p.Bound.Strips[quire])
	}
	a.a.Records, a.b.Records, a.log, a.picks = spacious(a.a.Records), spacious(a.b.Records), spacious(a.log), spacious(a.picks)
	a.p.Log, a.l.Records = spacious(a.p.Log), spacious(a.l.Records)
	return a
}

// wholeOf returns a copy of all that is in the lists of arguments, and in the room behind them.
func wholeOf(a args) []any {
	var all []any
	for _, b := range []api.Bound{a.bound, a.p.Bound} {
		for _, l := range b.Strips {
			all = append(all, slices.Clone(l[:cap(l)]))
		}
	}
	for _, l := range [][]api.Record{a.a.Records, a.b.Records, a.log, a.p.Log, a.l.Records} {
		all = append(all, slices.Clone(l[:cap(l)]))
	}
	return append(all, slices.Clone(a.picks[:cap(a.picks)]))
}

// TestMemory: R4: results share no memory with arguments, nor two lists of a result; arguments are not changed, nor what lies behind them.
func TestMemory(t *testing.T) {
	changes := []func(a *args){
		func(a *args) {},
		func(a *args) { a.r, a.b = a.log[0], a.a },
		func(a *args) { a.l.Records, a.l.Many, a.p.Bound = nil, 2, sewn(a.p.Bound) },
		func(a *args) { a.l.Records, a.l.Many = nil, 1 },
		func(a *args) { a.l.Records, a.l.Many = a.l.Records[:1], 0 },
		func(a *args) { a.a, a.picks = api.Book{}, nil },
		func(a *args) { a.b, a.picks = api.Book{}, list(3, 2) },
		func(a *args) { a.bound.Sewn, a.picks = [3]int{-1, 2, 100}, list(3, 2) },
		func(a *args) { a.r.Kind, a.l.Many, a.p.Me, a.bound.Sewn[0] = 61, 61, 6, 100 },
		func(a *args) { a.r.At.No, a.l.Records[0].Text = 0, "other" },
	}
	for i, change := range changes {
		for _, c := range calls() {
			a := right()
			change(&a)
			a = roomy(a)
			before, numbers := wholeOf(a), []any{a.r, a.s, a.o, a.p.Known, a.bound.Sewn}
			first, e := c.do(a)
			if shares(pieces(reflect.ValueOf(first)), pieces(reflect.ValueOf(a))) && len(first) > 0 {
				t.Errorf("%s, %d: results share memory", c.name, i)
			}
			if !reflect.DeepEqual(before, wholeOf(a)) || !reflect.DeepEqual(numbers, []any{a.r, a.s, a.o, a.p.Known, a.bound.Sewn}) {
				t.Errorf("%s, %d: changes its arguments", c.name, i)
			}
			second, f := c.do(a)
			if e != f || !reflect.DeepEqual(first, second) {
				t.Errorf("%s, %d: errors %d and %d; %s, and then %s", c.name, i, e, f, short(first), short(second))
			}
		}
	}
}

// TestNilAndEmpty: R3.
func TestNilAndEmpty(t *testing.T) {
	empty := api.Bound{Strips: [3][]api.Strip{{}, {}, {}}}
	for _, log := range [][]api.Record{nil, {}} {
		b := api.Book{Records: log}
		wantError(t, "Check", api.OK, book.Check(b))
		want(t, "Sorted", api.Book{}, api.OK)(book.Sorted(log))
		want(t, "Add", api.Book{Records: []api.Record{key()}}, api.OK)(book.Add(b, key()))
		want(t, "Join", api.Book{}, api.OK)(book.Join(b, b))
		want(t, "Have", [6]int{}, api.OK)(book.Have(b))
		for _, bound := range []api.Bound{{}, empty} {
			wantError(t, "CheckBound", api.OK, book.CheckBound(bound, log))
			wantTwo(t, "Write", wholeBound([]api.Record{key()}), []api.Record{key()}, api.OK)(book.Write(bound, log, key()))
			want(t, "Sew", bound, api.OK)(book.Sew(bound), api.OK)
			want(t, "Tear", bound, api.OK)(book.Tear(bound, nil), api.OK)
			want(t, "Tear", bound, api.OK)(book.Tear(bound, []int{}), api.OK)
			wantBoth(t, "Open", bound, log)(book.Open(bound))
			p := api.Parish{Me: 2, Bound: bound, Log: log}
			wantTwo(t, "Send", p, api.Letter{From: 2, To: 1, About: 5, Records: log}, api.OK)(book.Send(p, 1, 5))
			wantTwo(t, "Receive", p, []api.Letter{}, api.OK)(book.Receive(p, api.Letter{From: 1, To: 2, Records: log}))
			want(t, "Restart", p, api.OK)(book.Restart(p, nil))
			noted := api.Parish{Me: 2, Bound: wholeBound([]api.Record{key()}), Log: []api.Record{key()}}
			wantTwo(t, "Note", noted, key(), api.OK)(book.Note(p, key()))
		}
	}
	one := wholeBound([]api.Record{key()})
	want(t, "Tear without picks", api.Bound{}, api.OK)(book.Tear(one, nil), api.OK)
	want(t, "Tear without picks", api.Bound{}, api.OK)(book.Tear(one, []int{}), api.OK)
}

// TestAnyArguments: P1: no call panics, whatever the arguments are.
func TestAnyArguments(t *testing.T) {
	rounds(70, 6000, func(r *rand.Rand) {
		any := func() int { return oneOf(r, odd(r), odd(r), r.Intn(7)) }
		anyRecord := func() api.Record {
			return api.Record{At: item(any(), any()), Kind: any(), Day: any(), Known: any(), Of: item(any(), any()), Text: oneOf(r, "", text(r), "\xff\x00")}
		}
		anyStrip := func() api.Strip {
			return api.Strip{No: any(), Size: any(), Text: oneOf(r, "", "\x00", text(r), text(r)+"\x80")}
		}
		records := func() []api.Record {
			if r.Intn(2) == 0 {
				return logOf(r, many(r, 8))
			}
			return []api.Record{anyRecord(), anyRecord(), anyRecord()}[:r.Intn(4)]
		}
		anyBound := func() api.Bound {
			b := anyBound(r, 8)
			for quire := range 3 {
				if r.Intn(3) == 0 {
					b.Strips[quire] = append(b.Strips[quire], anyStrip(), anyStrip())
				}
			}
			b.Sewn = [3]int{any(), any(), any()}
			return b
		}
		a := args{
			r: anyRecord(), text: oneOf(r, text(r), "0 0 1 0 0 0 0 "+text(r), "\xff 0 0"), no: any(), quire: any(), other: any(), s: anyStrip(), o: anyStrip(),
			a: api.Book{Records: records()}, b: api.Book{Records: records()}, bound: anyBound(), log: records(), picks: picks(r), me: any(), to: any(), about: any(),
		}
		a.p = api.Parish{Me: any(), Bound: anyBound(), Log: records()}
		a.p.Known[r.Intn(6)][r.Intn(6)] = any()
		a.l = api.Letter{From: any(), To: any(), About: any(), Many: any(), First: any(), Records: records()}
		if r.Intn(2) == 0 {
			a.p = parish(r, logOf(r, many(r, 8)))
		}
		for _, c := range calls() {
			if got, e := c.do(a); e != api.OK && !isZero(got) {
				t.Fatalf("%s, %s: %s beside the error %d", c.name, short(a), short(got), e)
			}
		}
	})
}

// TestLongLists: lists and texts that are much longer than what they could be.
func TestLongLists(t *testing.T) {
	const many = 1000000
	a := right()
	a.r.Text, a.text, a.s.Text, a.o.Text = strings.Repeat("a", many), strings.Repeat("1 ", many), strings.Repeat(" ", many), strings.Repeat("\x00", many)
	a.a.Records, a.b.Records, a.log = make([]api.Record, many), plainLog(1, 1000), make([]api.Record, many)
	a.p.Log, a.l.Records = make([]api.Record, many), make([]api.Record, many)
	for quire := range 3 {
		a.bound.Strips[quire] = make([]api.Strip, many)
		a.p.Bound.Strips[quire] = make([]api.Strip, many)
	}
	for _, c := range calls() {
		got, e := c.do(a)
		if len(c.may) > 0 && c.name != "NewParish" && e == api.OK || e != api.OK && !isZero(got) {
			t.Errorf("%s: error %d", c.name, e)
		}
	}
	p := right().p
	p.Log = slices.Repeat(p.Log, 100000)
	wantTwo(t, "a long log", api.Parish{}, api.Record{}, api.ErrParish)(book.Note(p, key()))
	l := right().l
	l.Records = slices.Repeat(l.Records, 100000)
	wantTwo(t, "a long letter", api.Parish{}, []api.Letter{}, api.ErrLetter)(book.Receive(right().p, l))
}
