package book_test

import (
	"math/rand"
	"slices"
	"testing"

	"leazing/api"
	"leazing/book"
)

// P8.1: parishes, and letters.

// anyParish returns a random one, and sometimes one that is not valid.
func anyParish(r *rand.Rand, most int) api.Parish {
	p := parish(r, logOf(r, many(r, most)))
	switch r.Intn(12) {
	case 0:
		p.Me = odd(r)
	case 1:
		p.Known[r.Intn(6)][r.Intn(6)] = odd(r)
	case 2:
		p.Bound = spoiltBound(r, p.Bound, 1)
	}
	return p
}

func TestNote(t *testing.T) {
	count := map[api.Errno]int{}
	withdrawn := 0
	rounds(50, 4000, func(r *rand.Rand) {
		p := anyParish(r, oneOf(r, 10, 10, 60))
		x := record(r, item(p.Me, 1+r.Intn(20)))
		if r.Intn(2) == 0 {
			x.At = oneOf(r, api.Item{}, item(-1, -1), item(6, 60), x.At) // whatever it was
		}
		if r.Intn(5) == 0 {
			x = spoiltRecord(r, x)
		}
		due, noted, e := noted(p, x)
		count[e]++
		if e == api.OK && x.Kind == 0 {
			withdrawn++
		}
		wantTwo(t, []any{p, x}, due, noted, e)(book.Note(p, x))
	})
	for _, e := range []api.Errno{api.OK, api.ErrParish, api.ErrRecord, api.ErrLong} {
		if count[e] < 20 {
			t.Error("tried:", e, count)
		}
	}
	if withdrawn < 50 {
		t.Error("tried:", withdrawn)
	}
}

// TestNotes: the records of a parish's own have the numbers that are next of its own, among those of others; they are not sewn.
func TestNotes(t *testing.T) {
	log := []api.Record{{At: item(2, 0), Kind: 1}, {At: item(3, 0), Kind: 1}, {At: item(2, 1), Kind: 1}}
	p := api.Parish{Me: 3, Bound: sewn(wholeBound(log)), Log: log}
	p.Known[1][2] = 9
	due := p
	for no := 1; no < 58; no++ {
		x := api.Record{At: item(3, no), Known: no, Of: item(3, no/2)}
		due.Log = append(slices.Clone(due.Log), x)
		due.Bound = wholeBound(due.Log)
		due.Bound.Sewn = [3]int{3, 3, 3}
		given := x
		given.At = item(2, 0)
		wantTwo(t, x, due, x, api.OK)(book.Note(p, given))
		p = due
	}
	wantTwo(t, "one too many", api.Parish{}, api.Record{}, api.ErrLong)(book.Note(p, key()))
	wantTwo(t, "a wrong one", api.Parish{}, api.Record{}, api.ErrRecord)(book.Note(p, api.Record{Kind: 61}))
	first := api.Parish{Me: 3}
	wantTwo(t, "nothing to withdraw", api.Parish{}, api.Record{}, api.ErrRecord)(book.Note(first, api.Record{Of: item(3, 0)}))
	wantTwo(t, "nothing to withdraw", api.Parish{}, api.Record{}, api.ErrRecord)(book.Note(first, api.Record{At: item(3, 1), Of: item(3, 0)}))
	wantTwo(t, "one of others", api.Parish{}, api.Record{}, api.ErrRecord)(book.Note(p, api.Record{Of: item(2, 0)}))
}

func TestSend(t *testing.T) {
	count := map[api.Errno]int{}
	rounds(51, 4000, func(r *rand.Rand) {
		p := anyParish(r, oneOf(r, 10, 60))
		to, about := oneOf(r, r.Intn(6), r.Intn(6), odd(r)), oneOf(r, r.Intn(6), r.Intn(6), odd(r))
		due, l, e := sent(p, to, about)
		count[e]++
		wantTwo(t, []any{p, to, about}, due, l, e)(book.Send(p, to, about))
	})
	for _, e := range []api.Errno{api.OK, api.ErrParish, api.ErrArg} {
		if count[e] < 100 {
			t.Error("tried:", e, count)
		}
	}
	p := api.Parish{Me: 3}
	for to := range 6 {
		for about := range 6 {
			want := verdict(to != 3, api.ErrArg)
			wantTwo(t, []int{to, about}, none(to != 3, p), none(to != 3, api.Letter{From: 3, To: to, About: about}), want)(book.Send(p, to, about))
		}
	}
	edges(0, 5, func(n int, valid bool) {
		_, _, e := book.Send(p, n, 0)
		wantError(t, n, verdict(valid && n != 3, api.ErrArg), e)
		_, _, e = book.Send(p, 0, n)
		wantError(t, n, verdict(valid, api.ErrArg), e)
	})
}

// TestReceive: letters of records that are there, that are next, that come too early, and that differ; and wrong ones.
func TestReceive(t *testing.T) {
	count := map[api.Errno]int{}
	more, fewer, written, skipped := 0, 0, 0, 0
	rounds(52, 8000, func(r *rand.Rand) {
		log := logOf(r, oneOf(r, many(r, 12), many(r, 60), 60+r.Intn(9)))
		here := log[:min(60, len(log))]
		switch r.Intn(6) {
		case 0:
		case 1:
			here = logOf(r, many(r, 60))
		default:
			here = part(r, here)
		}
		p := parish(r, here)
		l := letter(r, p.Me, log)
		switch r.Intn(8) {
		case 0:
			l = spoiltLetter(r, l)
		case 1:
			if n := len(l.Records); n > 0 {
				i := r.Intn(n)
				l.Records[i] = record(r, l.Records[i].At)
			}
		case 2:
			if r.Intn(3) == 0 {
				p.Me = odd(r)
			}
		}
		due, back, e := received(p, l)
		count[e]++
		switch {
		case len(back) > 0 && back[0].Many > l.Many:
			more++
		case len(back) > 0:
			fewer++
		}
		if len(due.Log) > len(p.Log) {
			written++
		} else if e == api.OK && len(l.Records) > 0 && l.First > len(of(p.Log, l.About)) {
			skipped++
		}
		wantTwo(t, []any{p, l}, due, back, e)(book.Receive(p, l))
	})
	for _, e := range []api.Errno{api.OK, api.ErrParish, api.ErrLetter, api.ErrDiffer, api.ErrLong} {
		if count[e] < 20 {
			t.Error("tried:", e, count)
		}
	}
	if more < 500 || fewer < 500 || written < 500 || skipped < 50 {
		t.Error("tried:", more, fewer, written, skipped)
	}
}

// TestCarried: which records a letter carries back, and which of one that comes are written.
func TestCarried(t *testing.T) {
	all := plainLog(2, 20)
	for has := range 20 {
		log := slices.Concat(plainLog(0, 3), all[:has], plainLog(5, 2))
		p := api.Parish{Me: 1, Bound: wholeBound(log), Log: log}
		for said := range 21 {
			for first := range 21 {
				carried := all[first:min(20, first+said%7)]
				due, count := p, has
				due.Log = log
				for _, x := range carried {
					if x.At.No == count {
						due.Log = append(slices.Clone(due.Log), x)
						count++
					}
				}
				due.Bound = sewn(wholeBound(due.Log))
				due.Known[4][2] = said
				var back []api.Letter
				if count > said {
					back = []api.Letter{{From: 1, To: 4, About: 2, Many: count, First: said, Records: all[said:min(count, said+6)]}}
				} else if count < said {
					back = []api.Letter{{From: 1, To: 4, About: 2, Many: count, First: count}}
				}
				l := api.Letter{From: 4, To: 1, About: 2, Many: said, First: first, Records: carried}
				wantTwo(t, []any{has, l}, due, back, api.OK)(book.Receive(p, l))
			}
		}
	}
}

// TestKnown: a parish keeps the greatest number that another one said to have, of each parish.
func TestKnown(t *testing.T) {
	p := api.Parish{Me: 1}
	for _, c := range []struct{ from, about, many, known int }{{4, 2, 7, 7}, {4, 2, 3, 7}, {4, 2, 0, 7}, {4, 2, 8, 8}, {3, 2, 5, 5}, {4, 1, 60, 60}, {0, 0, 0, 0}, {2, 4, 1, 1}} {
		due := p
		due.Known[c.from][c.about] = c.known
		p, _ = mustTwo[api.Parish, []api.Letter](t, c)(book.Receive(p, api.Letter{From: c.from, To: 1, About: c.about, Many: c.many}))
		want(t, c, due, api.OK)(p, api.OK)
	}
	p, _ = mustTwo[api.Parish, api.Letter](t, "Send")(book.Send(p, 4, 2))
	p, _ = mustTwo[api.Parish, api.Record](t, "Note")(book.Note(p, key()))
	if p.Known[4][2] != 8 || p.Known[1] != [6]int{} {
		t.Errorf("Known: %v", p.Known)
	}
	again := must[api.Parish](t, p)(book.Restart(p, list(3)))
	want(t, "Restart", api.Parish{Me: 1}, api.OK)(again, api.OK)
}

// TestFullParish: nothing of a letter is taken, if not all of it can be written.
func TestFullParish(t *testing.T) {
	for n := 50; n <= 60; n++ {
		log := slices.Concat(plainLog(1, n-3), plainLog(2, 3))
		p := api.Parish{Me: 1, Bound: wholeBound(log), Log: log}
		for first := range 4 {
			for carried := range 7 {
				l := api.Letter{From: 2, To: 1, About: 2, Many: 20, First: first, Records: plainLog(2, 20)[first : first+carried]}
				more := max(0, first+carried-3)
				fits := n+more <= 60
				due := p
				if more > 0 {
					due.Log = slices.Concat(log, plainLog(2, 3+more)[3:])
				}
				due.Bound = sewn(wholeBound(due.Log))
				due.Known[2][2] = 20
				back := []api.Letter{{From: 1, To: 2, About: 2, Many: 3 + more, First: 3 + more}}
				wantTwo(t, []any{n, l}, none(fits, due), none(fits, back), verdict(fits, api.ErrLong))(book.Receive(p, l))
			}
		}
	}
	full := plainLog(2, 60)
	p := api.Parish{Me: 1, Bound: wholeBound(full), Log: full}
	next := api.Letter{From: 2, To: 1, About: 2, Many: 60, First: 60, Records: []api.Record{{At: item(2, 60), Kind: 1}}}
	wantTwo(t, "a record that nobody can have", api.Parish{}, []api.Letter{}, api.ErrLong)(book.Receive(p, next))
	next.First, next.Records[0].At.No = 59, 59
	wantTwo(t, "another one", api.Parish{}, []api.Letter{}, api.ErrDiffer)(book.Receive(p, next))
	next.Records = append(next.Records, api.Record{At: item(2, 60), Kind: 1})
	wantTwo(t, "another one, and one too many", api.Parish{}, []api.Letter{}, api.ErrDiffer)(book.Receive(p, next))
	next.Records[0] = full[59]
	wantTwo(t, "the same, and one too many", api.Parish{}, []api.Letter{}, api.ErrLong)(book.Receive(p, next))
}

func TestRestart(t *testing.T) {
	count := map[api.Errno]int{}
	lost, kept := 0, 0
	rounds(53, 6000, func(r *rand.Rand) {
		p, picks := anyParish(r, oneOf(r, 5, 20, 60)), picks(r)
		due, e := restarted(p, picks)
		count[e]++
		if len(due.Log) < len(p.Log) {
			lost++
		} else if len(due.Log) > 0 {
			kept++
		}
		want(t, []any{p, picks}, due, e)(book.Restart(p, picks))
	})
	if count[api.OK] < 1000 || count[api.ErrParish] < 200 || lost < 500 || kept < 500 {
		t.Error("tried:", count, lost, kept)
	}
}
