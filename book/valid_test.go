package book_test

import (
	"math"
	"math/rand"
	"slices"
	"strings"
	"testing"

	"leazing/api"
	"leazing/book"
)

// P8.1: what is valid, each limit at its edge and beyond it.

// edges calls try with numbers around the limits of a range, and whether they are within it.
func edges(lo, hi int, try func(n int, valid bool)) {
	for _, n := range list(math.MinInt, -hi-1, lo-1, lo, lo+1, hi-1, hi, hi+1, math.MaxInt) {
		try(n, lo <= n && n <= hi)
	}
}

// aRecord returns a record that is in no short book.
func aRecord() api.Record {
	return api.Record{At: item(3, 70), Kind: 5, Day: 10, Known: 12, Text: "a key"}
}

// aWithdrawal returns a record that withdraws the one before it.
func aWithdrawal() api.Record {
	return api.Record{At: item(3, 70), Known: 12, Of: item(3, 69)}
}

// none returns a result without error if something is valid, and otherwise a zero value.
func none[T any](valid bool, x T) T {
	var zero T
	if valid {
		return x
	}
	return zero
}

// checkRecord wants a record to be valid, or not, by all functions that take one.
func checkRecord(t *testing.T, x api.Record, valid bool) {
	t.Helper()
	wrong := verdict(valid, api.ErrRecord)
	wantError(t, x, wrong, book.CheckRecord(x))
	want(t, x, none(valid, textOf(x)), wrong)(book.Encode(x))
	want(t, x, none(valid, x), verdict(valid, api.ErrText))(book.Decode(textOf(x)))
	_, e := book.Thirds(x, 7)
	wantError(t, x, wrong, e)
	after := verdict(x.At.No == 0, api.ErrGap) // in an empty book
	if !valid {
		after = api.ErrRecord
	}
	_, e = book.Add(api.Book{}, x)
	wantError(t, x, after, e)
	_, _, e = book.Write(api.Bound{}, nil, x)
	wantError(t, x, after, e)
	_, e = book.Sorted([]api.Record{x})
	wantError(t, x, verdict(after == api.OK, api.ErrBook), e)
	wantError(t, x, verdict(after == api.OK, api.ErrBook), book.Check(api.Book{Records: []api.Record{x}}))
	to := api.Parish{Me: 1}
	_, _, e = book.Receive(to, api.Letter{From: 4, To: 1, About: x.At.Parish, First: x.At.No, Records: []api.Record{x}})
	wantError(t, x, verdict(valid && x.At.No <= 60, api.ErrLetter), e)
}

// changing wants a record to be valid, or not, after a change.
func changing(t *testing.T, x api.Record, valid bool, change func(x *api.Record)) {
	t.Helper()
	change(&x)
	checkRecord(t, x, valid)
}

func TestCheckRecord(t *testing.T) {
	checkRecord(t, aRecord(), true)
	checkRecord(t, key(), true)
	checkRecord(t, api.Record{}, false)
	checkRecord(t, api.Record{Kind: 1}, true)
	edges(0, 5, func(n int, valid bool) { changing(t, aRecord(), valid, func(x *api.Record) { x.At.Parish = n }) })
	edges(0, 9999, func(n int, valid bool) { changing(t, aRecord(), valid, func(x *api.Record) { x.At.No = n }) })
	edges(1, 60, func(n int, valid bool) { changing(t, aRecord(), valid, func(x *api.Record) { x.Kind = n }) })
	edges(0, 4166, func(n int, valid bool) { changing(t, aRecord(), valid, func(x *api.Record) { x.Day = n }) })
	edges(0, 4166, func(n int, valid bool) { changing(t, aRecord(), valid, func(x *api.Record) { x.Known = n }) })
	edges(0, 0, func(n int, valid bool) { changing(t, aRecord(), valid, func(x *api.Record) { x.Of.Parish = n }) })
	edges(0, 0, func(n int, valid bool) { changing(t, aRecord(), valid, func(x *api.Record) { x.Of.No = n }) })
	changing(t, aRecord(), false, func(x *api.Record) { x.Of = item(3, 69) })
	for parish := range 6 {
		for kind := 1; kind <= 60; kind++ {
			checkRecord(t, api.Record{At: item(parish, 0), Kind: kind}, true)
		}
		checkRecord(t, api.Record{At: item(parish, 9999), Kind: 60, Day: 4166, Known: 4166, Text: strings.Repeat("~", 160)}, true)
	}
}

func TestCheckText(t *testing.T) {
	for n := range 200 {
		changing(t, aRecord(), n <= 160, func(x *api.Record) { x.Text = strings.Repeat(" ", n) })
		changing(t, aRecord(), n <= 160, func(x *api.Record) { x.Text = strings.Repeat("~", n) })
	}
	for b := range 256 {
		valid := b >= 0x20 && b <= 0x7e
		changing(t, aRecord(), valid, func(x *api.Record) { x.Text = string([]byte{byte(b)}) })
		for _, i := range list(0, 80, 158, 159) {
			l := slices.Repeat([]byte("a"), 160)
			l[i] = byte(b)
			changing(t, aRecord(), valid, func(x *api.Record) { x.Text = string(l) })
		}
	}
	for _, wrong := range []string{"\t", "a\n", "a\nb", "\u0100", "\U0001f33e", "a key\x80", strings.Repeat("a", 1000000)} {
		changing(t, aRecord(), false, func(x *api.Record) { x.Text = wrong })
	}
}

func TestCheckWithdrawal(t *testing.T) {
	checkRecord(t, aWithdrawal(), true)
	edges(0, 0, func(n int, valid bool) { changing(t, aWithdrawal(), valid, func(x *api.Record) { x.Kind = n }) })
	edges(0, 0, func(n int, valid bool) { changing(t, aWithdrawal(), valid, func(x *api.Record) { x.Day = n }) })
	edges(0, 4166, func(n int, valid bool) { changing(t, aWithdrawal(), valid, func(x *api.Record) { x.Known = n }) })
	edges(3, 3, func(n int, valid bool) { changing(t, aWithdrawal(), valid, func(x *api.Record) { x.Of.Parish = n }) })
	edges(0, 69, func(n int, valid bool) { changing(t, aWithdrawal(), valid, func(x *api.Record) { x.Of.No = n }) })
	for _, text := range []string{" ", "a", "\n"} {
		changing(t, aWithdrawal(), false, func(x *api.Record) { x.Text = text })
	}
	edges(0, 5, func(n int, valid bool) { // of one's own parish
		changing(t, aWithdrawal(), valid, func(x *api.Record) { x.At.Parish, x.Of.Parish = n, n })
	})
	edges(70, 9999, func(n int, valid bool) { changing(t, aWithdrawal(), valid, func(x *api.Record) { x.At.No = n }) })
	checkRecord(t, api.Record{At: item(3, 1), Of: item(3, 0)}, true)
	checkRecord(t, api.Record{At: item(3, 0), Of: item(3, 0)}, false)
	checkRecord(t, api.Record{At: item(3, 0), Of: item(3, -1)}, false)
	checkRecord(t, api.Record{At: item(3, 1), Of: item(2, 0)}, false)
	checkRecord(t, api.Record{At: item(0, 1)}, true)
	checkRecord(t, api.Record{At: item(1, 1)}, false)
	checkRecord(t, api.Record{At: item(5, 9999), Known: 4166, Of: item(5, 9998)}, true)
	checkRecord(t, api.Record{At: item(5, 10000), Of: item(5, 9999)}, false)
}

// TestAnyRecords: records one or two parts of which are other ones.
func TestAnyRecords(t *testing.T) {
	count := map[bool]int{}
	rounds(1, 12000, func(r *rand.Rand) {
		x := record(r, anyItem(r))
		checkRecord(t, x, true)
		x = spoiltRecord(r, x)
		if r.Intn(3) == 0 {
			x = spoiltRecord(r, x)
		}
		count[isRecord(x)]++
		checkRecord(t, x, isRecord(x))
	})
	if count[true] < 3000 || count[false] < 3000 {
		t.Error("tried:", count)
	}
}

// checkBook wants a book to be valid, or not, by all functions that take one.
func checkBook(t *testing.T, b api.Book, valid bool) {
	t.Helper()
	wrong := verdict(valid, api.ErrBook)
	wantError(t, b, wrong, book.Check(b))
	_, e := book.Have(b)
	wantError(t, b, wrong, e)
	_, e = book.Add(b, aRecord())
	wantError(t, b, none(valid, api.ErrGap)+wrong, e)
	want(t, b, none(valid, b), wrong)(book.Join(b, b))
	want(t, b, none(valid, b), wrong)(book.Join(api.Book{}, b))
	want(t, b, none(valid, b), wrong)(book.Join(b, api.Book{}))
}

// checkLog wants records to be a log, or not.
func checkLog(t *testing.T, l []api.Record, valid bool) {
	t.Helper()
	want(t, l, none(valid, bookOf(l)), verdict(valid, api.ErrBook))(book.Sorted(l))
	wantError(t, l, verdict(valid, api.ErrQuires), book.CheckBound(wholeBound(l), l))
}

func TestCheckBook(t *testing.T) {
	var l []api.Record
	for n := range 70 {
		checkBook(t, api.Book{Records: l}, n <= 60)
		checkLog(t, l, n <= 60)
		l = append(l, api.Record{At: item(4, n), Kind: 1})
	}
	three := []api.Record{{At: item(0, 0), Kind: 1}, {At: item(0, 1), Kind: 1}, {At: item(5, 0), Kind: 1}}
	at := func(items ...api.Item) []api.Record {
		var l []api.Record
		for _, i := range items {
			l = append(l, api.Record{At: i, Kind: 1})
		}
		return l
	}
	for _, c := range []struct {
		l         []api.Record
		log, book bool
	}{
		{nil, true, true},
		{three, true, true},
		{at(item(5, 0), item(0, 0), item(0, 1)), true, false},
		{at(item(0, 0), item(5, 0), item(0, 1)), true, false},
		{at(item(0, 1), item(0, 0), item(5, 0)), false, false},
		{at(item(0, 0), item(0, 0)), false, false},
		{at(item(0, 0), item(0, 2)), false, false},
		{at(item(0, 1)), false, false},
		{at(item(0, 0), item(1, 1)), false, false},
		{at(item(1, 0), item(2, 0), item(2, 1)), true, true},
		{at(item(6, 0)), false, false},
		{at(item(-1, 0)), false, false},
		{at(item(0, -1)), false, false},
		{at(item(0, -1), item(0, 0)), false, false},
		{append(at(item(0, 0)), api.Record{At: item(0, 1), Kind: 61}), false, false},
		{append(at(item(0, 0)), api.Record{At: item(0, 1), Of: item(0, 0)}), true, true},
	} {
		checkBook(t, api.Book{Records: c.l}, c.book)
		checkLog(t, c.l, c.log)
	}
}

// TestAnyBooks: logs and books in which records are wrong, doubled, lost, or in another order.
func TestAnyBooks(t *testing.T) {
	count := map[[2]bool]int{}
	rounds(2, 6000, func(r *rand.Rand) {
		l := logOf(r, many(r, 60))
		if r.Intn(2) == 0 {
			l = bookOf(l).Records
		}
		if n := len(l); n > 0 {
			i, j := r.Intn(n), r.Intn(n)
			switch r.Intn(6) {
			case 0:
				l[i] = spoiltRecord(r, l[i])
			case 1:
				l = slices.Delete(l, i, i+1)
			case 2:
				l = slices.Insert(l, i, l[j])
			case 3:
				l[i], l[j] = l[j], l[i]
			}
		}
		b := api.Book{Records: l}
		count[[2]bool{isLog(l), isBook(b)}]++
		checkBook(t, b, isBook(b))
		checkLog(t, l, isLog(l))
	})
	if count[[2]bool{true, true}] < 500 || count[[2]bool{true, false}] < 500 || count[[2]bool{false, false}] < 500 {
		t.Error("tried:", count)
	}
}

// checkStrip wants a strip to be whole in a quire, or not.
func checkStrip(t *testing.T, quire int, s api.Strip, valid bool) {
	t.Helper()
	wantError(t, []any{quire, s}, verdict(valid, api.ErrStrip), book.CheckStrip(quire, s))
	other := (quire + 1) % 3
	o := api.Strip{No: s.No, Size: s.Size, Text: strings.Repeat(" ", len(s.Text))}
	_, e := book.Mend(quire, s, other, o)
	wantError(t, []any{quire, s, other, o}, verdict(valid, api.ErrStrip), e)
	_, e = book.Mend(other, o, quire, s)
	wantError(t, []any{other, o, quire, s}, verdict(valid, api.ErrStrip), e)
}

func TestCheckStrip(t *testing.T) {
	for quire := range 3 {
		edges(0, 59, func(n int, valid bool) { checkStrip(t, quire, api.Strip{No: n, Size: 21, Text: "0123456789 "}, valid) })
		for size := -3; size < 300; size++ {
			for n := max(0, size/2-2); n <= max(0, size/2)+2; n++ {
				valid := size >= 14 && size <= 240 && (size == 2*n || size == 2*n-1)
				checkStrip(t, quire, api.Strip{No: 7, Size: size, Text: strings.Repeat(" ", n)}, valid)
				checkStrip(t, quire, api.Strip{No: 7, Size: size, Text: strings.Repeat("~", n)}, valid && (quire != 1 || size%2 == 0))
			}
		}
		for _, size := range list(math.MinInt, -21, math.MaxInt, math.MaxInt-1) {
			checkStrip(t, quire, api.Strip{No: 7, Size: size, Text: "0123456789 "}, false)
			checkStrip(t, quire, api.Strip{No: 7, Size: size}, false)
		}
		for b := range 256 {
			valid := b >= 0x20 && b <= 0x7e
			c := string([]byte{byte(b)})
			checkStrip(t, quire, api.Strip{Size: 21, Text: c + "123456789 "}, valid)
			checkStrip(t, quire, api.Strip{Size: 21, Text: "0123" + c + "56789 "}, valid)
			checkStrip(t, quire, api.Strip{Size: 21, Text: "0123456789" + c}, valid && (quire != 1 || b == 0x20))
			checkStrip(t, quire, api.Strip{Size: 22, Text: "0123456789" + c}, valid)
		}
	}
	edges(0, 2, func(n int, valid bool) {
		s := keyStrips()[1]
		wantError(t, n, verdict(valid, api.ErrArg), book.CheckStrip(n, s))
		s.Size = 0
		wrong := verdict(valid, api.ErrArg)
		if valid {
			wrong = api.ErrStrip
		}
		wantError(t, n, wrong, book.CheckStrip(n, s))
	})
}

// checkBound wants what is bound to have a log, or not, by all functions that want it.
func checkBound(t *testing.T, b api.Bound, log []api.Record, valid bool) {
	t.Helper()
	what := []any{b, log}
	wantError(t, what, verdict(valid, api.ErrQuires), book.CheckBound(b, log))
	_, _, e := book.Write(b, log, api.Record{Kind: 61})
	wantError(t, what, none(valid, api.ErrRecord)+none(!valid, api.ErrQuires), e)
	checkParish(t, api.Parish{Me: 3, Bound: b, Log: log}, valid)
}

// checkParish wants a parish to be valid, or not, by all functions that take one; each of them would have another error.
func checkParish(t *testing.T, p api.Parish, valid bool) {
	t.Helper()
	wrong := none(!valid, api.ErrParish)
	_, _, e := book.Note(p, api.Record{Kind: 61})
	wantError(t, p, none(valid, api.ErrRecord)+wrong, e)
	_, _, e = book.Send(p, 6, 0)
	wantError(t, p, none(valid, api.ErrArg)+wrong, e)
	_, _, e = book.Receive(p, api.Letter{})
	wantError(t, p, none(valid, api.ErrLetter)+wrong, e)
	_, e = book.Restart(p, nil)
	wantError(t, p, wrong, e)
}

func TestCheckBound(t *testing.T) {
	log := []api.Record{key(), {At: item(0, 0), Kind: 1}, {At: item(2, 1), Kind: 1, Text: "~"}}
	checkBound(t, api.Bound{}, nil, true)
	checkBound(t, wholeBound(log), log, true)
	checkBound(t, wholeBound(log[:2]), log, false)
	checkBound(t, wholeBound(log), log[:2], false)
	checkBound(t, wholeBound(log[1:]), log[1:], false)
	checkBound(t, wholeBound([]api.Record{log[1], log[0], log[2]}), log, false)
	for quire := range 3 {
		edges(0, 3, func(n int, valid bool) {
			b := wholeBound(log)
			b.Sewn[quire] = n
			checkBound(t, b, log, valid)
		})
		change := func(change func(l *[]api.Strip)) {
			b := sewn(wholeBound(log))
			change(&b.Strips[quire])
			b.Sewn[quire] = 0
			checkBound(t, b, log, false)
		}
		change(func(l *[]api.Strip) { *l = nil })
		change(func(l *[]api.Strip) { *l = (*l)[:2] })
		change(func(l *[]api.Strip) { *l = append(*l, (*l)[2]) })
		change(func(l *[]api.Strip) { *l = append(*l, api.Strip{}) })
		change(func(l *[]api.Strip) { (*l)[0], (*l)[1] = (*l)[1], (*l)[0] })
		for i := range 3 {
			change(func(l *[]api.Strip) { (*l)[i].No++ })
			change(func(l *[]api.Strip) { (*l)[i].Size++ })
			change(func(l *[]api.Strip) { (*l)[i].Text += " " })
			change(func(l *[]api.Strip) { (*l)[i].Text = "?" + (*l)[i].Text[1:] })
			change(func(l *[]api.Strip) { (*l)[i].Text = (*l)[i].Text[1:] })
		}
	}
	b := wholeBound(log)
	b.Strips[0], b.Strips[1] = b.Strips[1], b.Strips[0]
	checkBound(t, b, log, false)
}

// TestAnyBound: what is bound and spoilt.
func TestAnyBound(t *testing.T) {
	count := map[bool]int{}
	rounds(3, 4000, func(r *rand.Rand) {
		log := logOf(r, many(r, 12))
		b := bound(r, log)
		checkBound(t, b, log, true)
		if r.Intn(2) == 0 {
			b = spoiltBound(r, b, r.Intn(2))
		} else if n := len(log); n > 0 {
			log = slices.Clone(log)
			i := r.Intn(n)
			log[i] = spoiltRecord(r, log[i])
		}
		count[hasLog(b, log)]++
		checkBound(t, b, log, hasLog(b, log))
	})
	if count[true] < 300 || count[false] < 300 {
		t.Error("tried:", count)
	}
}

func TestCheckParish(t *testing.T) {
	log := []api.Record{key()}
	right := func() api.Parish { return api.Parish{Me: 3, Bound: wholeBound(log), Log: log} }
	checkParish(t, right(), true)
	edges(0, 5, func(n int, valid bool) {
		p := right()
		p.Me = n
		checkParish(t, p, valid)
		want(t, n, none(valid, api.Parish{Me: n}), verdict(valid, api.ErrArg))(book.NewParish(n))
	})
	for i := range 6 {
		for j := range 6 {
			edges(0, 60, func(n int, valid bool) {
				p := right()
				p.Known[i][j] = n
				checkParish(t, p, valid)
			})
		}
	}
	p := right()
	p.Log = nil
	checkParish(t, p, false)
}

// checkLetter wants a letter to be valid, or not, for the parish 1 that has ten records of the parish 2.
func checkLetter(t *testing.T, change func(l *api.Letter), valid bool) {
	t.Helper()
	log := plainLog(2, 10)
	p := api.Parish{Me: 1, Bound: wholeBound(log), Log: log}
	l := api.Letter{From: 3, To: 1, About: 2, Many: 9, First: 4, Records: slices.Clone(log[4:7])}
	change(&l)
	_, _, e := book.Receive(p, l)
	wantError(t, l, verdict(valid, api.ErrLetter), e)
}

// plainLog returns so many records of a parish.
func plainLog(parish, n int) []api.Record {
	var log []api.Record
	for no := range n {
		log = append(log, api.Record{At: item(parish, no), Kind: 1, Text: strings.Repeat("x", no)})
	}
	return log
}

func TestCheckLetter(t *testing.T) {
	all := plainLog(2, 60)
	checkLetter(t, func(l *api.Letter) {}, true)
	edges(0, 5, func(n int, valid bool) { checkLetter(t, func(l *api.Letter) { l.From = n }, valid && n != 1) })
	edges(1, 1, func(n int, valid bool) { checkLetter(t, func(l *api.Letter) { l.To = n }, valid) })
	checkLetter(t, func(l *api.Letter) { l.From, l.To = 1, 3 }, false)
	edges(0, 5, func(n int, valid bool) {
		checkLetter(t, func(l *api.Letter) { l.About = n }, n == 2)
		checkLetter(t, func(l *api.Letter) { l.About, l.Records = n, nil }, valid)
	})
	edges(0, 60, func(n int, valid bool) {
		checkLetter(t, func(l *api.Letter) { l.Many = n }, valid)
		checkLetter(t, func(l *api.Letter) { l.First = n }, n == 4)
		checkLetter(t, func(l *api.Letter) { l.First, l.Records = n, nil }, valid)
	})
	for n := range 61 {
		checkLetter(t, func(l *api.Letter) { l.First, l.Records = 0, all[:n] }, n <= 6)
	}
	checkLetter(t, func(l *api.Letter) { l.Records[1] = l.Records[0] }, false)
	checkLetter(t, func(l *api.Letter) { l.Records[0], l.Records[1] = l.Records[1], l.Records[0] }, false)
	checkLetter(t, func(l *api.Letter) { l.Records = append(l.Records[:1], l.Records[2]) }, false)
	for i := range 3 {
		checkLetter(t, func(l *api.Letter) { l.Records[i].Kind = 61 }, false)
		checkLetter(t, func(l *api.Letter) { l.Records[i].At.Parish = 3 }, false)
	}
	checkLetter(t, func(l *api.Letter) { // records that there could not be in a book, but in a letter
		l.First, l.Records = 60, []api.Record{{At: item(2, 60), Kind: 1}, {At: item(2, 61), Kind: 1}}
	}, true)
}
