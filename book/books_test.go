package book_test

import (
	"math/rand"
	"slices"
	"testing"

	"leazing/api"
	"leazing/book"
)

// P8.1 and P8.2: books.

// sorted returns the book of a log, and wants it to be the right one.
func sorted(t *testing.T, log []api.Record) api.Book {
	t.Helper()
	b := must[api.Book](t, log)(book.Sorted(log))
	want(t, log, bookOf(log), api.OK)(b, api.OK)
	return b
}

func join(t *testing.T, a, b api.Book) api.Book {
	t.Helper()
	return must[api.Book](t, []any{a, b})(book.Join(a, b))
}

// isWithin tells whether a book has all records of another one.
func isWithin(a, b api.Book) bool {
	return !slices.ContainsFunc(a.Records, func(r api.Record) bool { return !slices.Contains(b.Records, r) })
}

// TestJoins: P8.2, of books that have records in common.
func TestJoins(t *testing.T) {
	both, one := 0, 0
	rounds(30, 3000, func(r *rand.Rand) {
		log := logOf(r, many(r, 60))
		a, b := sorted(t, part(r, log)), sorted(t, part(r, log))
		c := join(t, a, b)
		want(t, []any{b, a}, c, api.OK)(book.Join(b, a))
		wantError(t, c, api.OK, book.Check(c))
		if !isWithin(a, c) || !isWithin(b, c) {
			t.Fatalf("%+v and %+v: their join has not all of them", short(a), short(b))
		}
		if slices.ContainsFunc(c.Records, func(x api.Record) bool { return !slices.Contains(a.Records, x) && !slices.Contains(b.Records, x) }) {
			t.Fatalf("%+v and %+v: their join has others", short(a), short(b))
		}
		for _, x := range []api.Book{a, b, c} {
			want(t, x, x, api.OK)(book.Join(x, x))
			want(t, x, c, api.OK)(book.Join(x, c))
			want(t, x, c, api.OK)(book.Join(c, x))
			want(t, x, x, api.OK)(book.Join(x, api.Book{}))
			want(t, x, x, api.OK)(book.Join(api.Book{}, x))
		}
		if !isWithin(a, b) && !isWithin(b, a) {
			both++
		} else if len(a.Records) != len(b.Records) {
			one++
		}
	})
	if both < 500 || one < 500 {
		t.Error("tried:", both, one)
	}
}

// TestTurns: P8.2: the book of a log does not depend on the order in which parishes took turns.
func TestTurns(t *testing.T) {
	moved := 0
	rounds(31, 3000, func(r *rand.Rand) {
		log := logOf(r, many(r, 60))
		other := turned(r, log)
		if !slices.Equal(log, other) {
			moved++
		}
		b := sorted(t, log)
		want(t, other, b, api.OK)(book.Sorted(other))
		var one api.Book
		for _, x := range other {
			one = must[api.Book](t, x)(book.Add(one, x))
		}
		want(t, other, b, api.OK)(one, api.OK)
		var have [6]int
		for parish := range have {
			have[parish] = len(of(log, parish))
		}
		want(t, log, have, api.OK)(book.Have(b))
	})
	if moved < 1000 {
		t.Error("tried:", moved)
	}
}

// TestAdd: a record that is next, that is there, another one of its item, one after a gap, or a wrong one, is added to a book.
func TestAdd(t *testing.T) {
	count := map[api.Errno]int{}
	full := map[api.Errno]int{}
	rounds(32, 12000, func(r *rand.Rand) {
		b := bookOf(logOf(r, many(r, 60)))
		parish := r.Intn(6)
		has := len(of(b.Records, parish))
		x := record(r, item(parish, oneOf(r, has, has, has+1, upTo(r, has), 60, 9999)))
		if n := len(b.Records); n > 0 && r.Intn(3) == 0 {
			x = b.Records[r.Intn(n)]
			if r.Intn(2) == 0 {
				x.Known = (x.Known + 1) % 4167
			}
		}
		if r.Intn(6) == 0 {
			x = spoiltRecord(r, x)
		}
		due, e := added(b, x)
		count[e]++
		if len(b.Records) == 60 {
			full[e]++
		}
		want(t, []any{b, x}, due, e)(book.Add(b, x))
	})
	for _, e := range []api.Errno{api.OK, api.ErrRecord, api.ErrDiffer, api.ErrGap, api.ErrLong} {
		if count[e] < 100 || full[e] < 100 {
			t.Error("tried:", e, count, full)
		}
	}
}

// TestDiffer: two records of an item that differ in just one part.
func TestDiffer(t *testing.T) {
	before := []api.Record{{At: item(2, 0), Kind: 1}, {At: item(2, 1), Kind: 1}}
	for _, c := range []struct{ a, b api.Record }{
		{api.Record{At: item(2, 2), Kind: 5}, api.Record{At: item(2, 2), Kind: 6}},
		{api.Record{At: item(2, 2), Kind: 5}, api.Record{At: item(2, 2), Kind: 5, Day: 1}},
		{api.Record{At: item(2, 2), Kind: 5}, api.Record{At: item(2, 2), Kind: 5, Known: 1}},
		{api.Record{At: item(2, 2), Kind: 5}, api.Record{At: item(2, 2), Kind: 5, Text: " "}},
		{api.Record{At: item(2, 2), Kind: 5, Text: "a"}, api.Record{At: item(2, 2), Kind: 5, Text: "b"}},
		{api.Record{At: item(2, 2), Of: item(2, 0)}, api.Record{At: item(2, 2), Of: item(2, 1)}},
		{api.Record{At: item(2, 2), Of: item(2, 0)}, api.Record{At: item(2, 2), Kind: 1}},
	} {
		log := append(slices.Clone(before), c.a)
		other := append(slices.Clone(before), c.b)
		a, b := sorted(t, log), sorted(t, other)
		want(t, c, api.Book{}, api.ErrDiffer)(book.Add(a, c.b))
		want(t, c, a, api.OK)(book.Add(a, c.a))
		want(t, c, api.Book{}, api.ErrDiffer)(book.Join(a, b))
		want(t, c, api.Book{}, api.ErrDiffer)(book.Join(b, a))
		wantTwo(t, c, api.Bound{}, []api.Record{}, api.ErrDiffer)(book.Write(wholeBound(log), log, c.b))
		wantTwo(t, c, wholeBound(log), log, api.OK)(book.Write(wholeBound(log), log, c.a))
		wantTwo(t, c, api.Parish{}, []api.Letter{}, api.ErrDiffer)(book.Receive(
			api.Parish{Me: 1, Bound: wholeBound(log), Log: log},
			api.Letter{From: 2, To: 1, About: 2, Many: 3, First: 2, Records: []api.Record{c.b}}))
		wantError(t, c, api.ErrQuires, book.CheckBound(wholeBound(log), other))
	}
}

// TestJoinErrors: books that differ in a record, or have too many.
func TestJoinErrors(t *testing.T) {
	count := map[api.Errno]int{}
	both := 0
	rounds(33, 6000, func(r *rand.Rand) {
		log := logOf(r, oneOf(r, many(r, 60), 61+r.Intn(30))) // of which some books are too long, and some only together
		a, b := bookOf(part(r, log)), bookOf(part(r, log))
		switch r.Intn(4) {
		case 0: // others of the same items
			b = bookOf(logOf(r, many(r, 60)))
		case 1:
			if n := len(b.Records); n > 0 {
				i := r.Intn(n)
				b.Records[i] = record(r, b.Records[i].At)
			}
		}
		due, e := joined(a, b)
		count[e]++
		if all := len(a.Records) + len(b.Records); e == api.ErrDiffer && all > 100 {
			both++
		}
		want(t, []any{a, b}, due, e)(book.Join(a, b))
		want(t, []any{b, a}, due, e)(book.Join(b, a))
	})
	for _, e := range []api.Errno{api.OK, api.ErrBook, api.ErrDiffer, api.ErrLong} {
		if count[e] < 50 {
			t.Error("tried:", e, count)
		}
	}
	if both < 50 {
		t.Error("tried:", both)
	}
}

// TestFullBooks: MaxRecords records, and one more.
func TestFullBooks(t *testing.T) {
	full, last := plainLog(2, 60), plainLog(2, 61)[60]
	b := sorted(t, full)
	want(t, "what is there", b, api.OK)(book.Add(b, full[0]))
	want(t, "what is there", b, api.OK)(book.Add(b, full[59]))
	want(t, "one more", api.Book{}, api.ErrLong)(book.Add(b, last))
	want(t, "one more", api.Book{}, api.ErrLong)(book.Add(b, api.Record{Kind: 1}))
	want(t, "another one", api.Book{}, api.ErrDiffer)(book.Add(b, api.Record{At: item(2, 59), Kind: 1}))
	want(t, "after a gap", api.Book{}, api.ErrGap)(book.Add(b, api.Record{At: item(2, 61), Kind: 1}))
	want(t, "after a gap", api.Book{}, api.ErrGap)(book.Add(b, api.Record{At: item(0, 1), Kind: 1}))
	want(t, "the last one", b, api.OK)(book.Add(api.Book{Records: full[:59]}, full[59]))
	want(t, "all", [6]int{2: 60}, api.OK)(book.Have(b))

	five, fifty := api.Book{Records: plainLog(1, 10)}, api.Book{Records: plainLog(2, 50)}
	want(t, "just as many", api.Book{Records: slices.Concat(five.Records, fifty.Records)}, api.OK)(book.Join(fifty, five))
	five.Records = plainLog(1, 11)
	want(t, "one too many", api.Book{}, api.ErrLong)(book.Join(fifty, five))
	five.Records = plainLog(2, 11)
	want(t, "the same", fifty, api.OK)(book.Join(fifty, five))
	six := api.Book{Records: slices.Concat(plainLog(1, 20), []api.Record{{At: item(2, 0), Kind: 2}})}
	want(t, "too many, and one that differs", api.Book{}, api.ErrDiffer)(book.Join(fifty, six))
	want(t, "too many, and one that differs", api.Book{}, api.ErrDiffer)(book.Join(six, fifty))
}
