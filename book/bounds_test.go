package book_test

import (
	"math"
	"math/rand"
	"slices"
	"strconv"
	"strings"
	"testing"

	"leazing/api"
	"leazing/book"
)

// P8.1: what is bound.

// TestWrite: records that are next, there, other ones of their items, after a gap, or wrong, are written in what has the log, or has not.
func TestWrite(t *testing.T) {
	count := map[api.Errno]int{}
	same, full := 0, 0
	rounds(40, 5000, func(r *rand.Rand) {
		log := logOf(r, oneOf(r, many(r, 12), 59, 60))
		b := bound(r, log)
		parish := r.Intn(6)
		has := len(of(log, parish))
		x := record(r, item(parish, oneOf(r, has, has, has, has+1, upTo(r, has))))
		if len(log) > 0 && r.Intn(4) == 0 {
			x = oneOf(r, log...)
		}
		switch r.Intn(8) {
		case 0:
			x = spoiltRecord(r, x)
		case 1:
			b = spoiltBound(r, b, 1)
		}
		bound, longer, e := written(b, log, x)
		wantTwo(t, []any{b, log, x}, bound, longer, e)(book.Write(b, log, x))
		count[e]++
		if e == api.OK && len(longer) == len(log) {
			same++
		}
		if e == api.OK && len(longer) == 60 {
			full++
		}
	})
	for _, e := range []api.Errno{api.OK, api.ErrQuires, api.ErrRecord, api.ErrDiffer, api.ErrGap, api.ErrLong} {
		if count[e] < 50 {
			t.Error("tried:", e, count)
		}
	}
	if same < 100 || full < 100 {
		t.Error("tried:", same, full)
	}
}

// TestWriteKeepsSewn: what is written is not sewn, and what is sewn stays so.
func TestWriteKeepsSewn(t *testing.T) {
	log := plainLog(2, 3)
	b := wholeBound(log)
	b.Sewn = [3]int{1, 3, 0}
	longer := wholeBound(plainLog(2, 4))
	longer.Sewn = b.Sewn
	wantTwo(t, b, longer, plainLog(2, 4), api.OK)(book.Write(b, log, plainLog(2, 4)[3]))
	for _, x := range log {
		wantTwo(t, b, b, log, api.OK)(book.Write(b, log, x))
	}
	all := plainLog(2, 60)
	wantTwo(t, "what is there", sewn(wholeBound(all)), all, api.OK)(book.Write(sewn(wholeBound(all)), all, all[30]))
	wantTwo(t, "one too many", api.Bound{}, []api.Record{}, api.ErrLong)(book.Write(wholeBound(all), all, api.Record{Kind: 1}))
}

// anyBound returns what is bound: nothing, what has a log, what is left of it, or anything.
func anyBound(r *rand.Rand, most int) api.Bound {
	b := bound(r, logOf(r, many(r, most)))
	switch r.Intn(4) {
	case 0:
		b = torn(b, picks(r))
	case 1:
		b = spoiltBound(r, b, r.Intn(4))
	case 2:
		b = spoiltBound(r, sewn(b), many(r, 20))
	}
	return b
}

func TestSew(t *testing.T) {
	rounds(41, 3000, func(r *rand.Rand) {
		b := anyBound(r, 60)
		want(t, b, sewn(b), api.OK)(book.Sew(b), api.OK)
	})
	for _, n := range list(math.MinInt, -1, 0, 1, 2, math.MaxInt) {
		b := api.Bound{Strips: [3][]api.Strip{{{No: 7}}, {}, {{Size: 3}, {Text: "\x00"}}}, Sewn: [3]int{n, n, n}}
		whole := b
		whole.Sewn = [3]int{1, 0, 2}
		want(t, b, whole, api.OK)(book.Sew(b), api.OK)
	}
}

// TestTearOfAny: whatever is bound, and whatever the picks are.
func TestTearOfAny(t *testing.T) {
	eaten := map[int]int{}
	empty := 0
	rounds(42, 12000, func(r *rand.Rand) {
		b, picks := anyBound(r, oneOf(r, 3, 3, 12, 60)), picks(r)
		left := torn(b, picks)
		want(t, []any{b, picks}, left, api.OK)(book.Tear(b, picks), api.OK)
		if len(picks) > 0 {
			eaten[choice(picks[0], 4)]++
		}
		if slices.ContainsFunc(slices.Concat(left.Strips[:]...), func(s api.Strip) bool { return s.Text == "" }) {
			empty++
		}
	})
	if len(eaten) != 4 || eaten[0] < 500 || eaten[1] < 500 || eaten[2] < 500 || eaten[3] < 500 || empty < 500 {
		t.Error("tried:", eaten, empty)
	}
}

// TestTear: what is left of three strips in each quire, the first of which is sewn.
func TestTear(t *testing.T) {
	strip := func(quire, no, bytes int) api.Strip {
		return api.Strip{No: no, Size: 20, Text: strings.Repeat(strconv.Itoa(quire)+"~", 5)[:bytes]}
	}
	var b api.Bound
	for quire := range 3 {
		b.Strips[quire] = []api.Strip{strip(quire, 3, 10), strip(quire, 1, 10), strip(quire, 2, 10)}
		b.Sewn[quire] = 1
	}
	const lost, tears, stays = 0, 1, 2
	left := func(b api.Bound, quire int, l ...api.Strip) api.Bound {
		b = copied(b)
		b.Strips[quire] = l
		return b
	}
	all := list(3, stays, 0, stays, 0, stays, 0, stays, 0, stays, 0, stays, 0)
	want(t, "all stay", b, api.OK)(book.Tear(b, all), api.OK)
	with := func(at int, n ...int) []int {
		l := slices.Clone(all)
		copy(l[at:], n)
		return l
	}
	for quire := range 3 {
		at := 1 + 4*quire
		first, second, third := strip(quire, 3, 10), strip(quire, 1, 10), strip(quire, 2, 10)
		want(t, "the second one is lost", left(b, quire, first, third), api.OK)(book.Tear(b, with(at, lost, 5)), api.OK)
		want(t, "the third one is lost", left(b, quire, first, second), api.OK)(book.Tear(b, with(at+2, lost, 5)), api.OK)
		want(t, "both are lost", left(b, quire, first), api.OK)(book.Tear(b, with(at, lost, 5, lost, 5)), api.OK)
		for n := range 40 {
			short := strip(quire, 1, n%10)
			want(t, n, left(b, quire, first, short, third), api.OK)(book.Tear(b, with(at, tears, n)), api.OK)
			want(t, n, left(b, quire, first, short, third), api.OK)(book.Tear(b, with(at, tears-3*n, n-40)), api.OK)
			want(t, n, b, api.OK)(book.Tear(b, with(at, stays+3*n, n)), api.OK)
			want(t, n, left(b, quire, first, third), api.OK)(book.Tear(b, with(at, lost-3*n, n)), api.OK)
		}
		gone := left(b, quire)
		gone.Sewn[quire] = 0
		for _, m := range list(quire, quire+4, quire-4, quire+400) { // two numbers are taken for each strip, also of the quire that is eaten
			want(t, m, gone, api.OK)(book.Tear(b, with(0, m)), api.OK)
			other := (quire + 1) % 3
			fewer := left(gone, other, strip(other, 3, 10), strip(other, 2, 10))
			want(t, m, fewer, api.OK)(book.Tear(b, append(list(m), with(1+4*other, lost)[1:]...)), api.OK)
		}
	}
	want(t, "without picks", api.Bound{Strips: [3][]api.Strip{{}, b.Strips[1][:1], b.Strips[2][:1]}, Sewn: [3]int{0, 1, 1}}, api.OK)(book.Tear(b, nil), api.OK)
	want(t, "one pick", api.Bound{Strips: [3][]api.Strip{b.Strips[0][:1], b.Strips[1][:1], b.Strips[2][:1]}, Sewn: [3]int{1, 1, 1}}, api.OK)(book.Tear(b, list(3)), api.OK)
	want(t, "just enough picks", left(b, 0, strip(0, 3, 10), strip(0, 1, 2), strip(0, 2, 10)), api.OK)(book.Tear(b, list(7, 1, 2, 2, 5, 2, 0, 2, 0, 2, 0, 2, 0)), api.OK)
	want(t, "two picks", left(left(left(b, 0, b.Strips[0][0]), 1, b.Strips[1][0]), 2, b.Strips[2][0]), api.OK)(book.Tear(b, list(3, 3)), api.OK)
}

// TestPicksRunOut: picks are taken from the first one again.
func TestPicksRunOut(t *testing.T) {
	b := wholeBound([]api.Record{key()})
	l := keyStrips()
	short := func(quire, n int) api.Strip {
		s := l[quire]
		s.Text = s.Text[:n]
		return s
	}
	for _, c := range []struct {
		picks []int
		left  [3][]api.Strip
	}{
		{list(3, 2), [3][]api.Strip{{l[0]}, {l[1]}, {l[2]}}},
		{list(3, 2, 4), [3][]api.Strip{{l[0]}, {}, {short(2, 3)}}}, // 3; 2 4, 3 2, 4 3
		{list(3, 4), [3][]api.Strip{{short(0, 3)}, {short(1, 3)}, {short(2, 3)}}},
		{list(3, 4, 11), [3][]api.Strip{{short(0, 0)}, {}, {l[2]}}}, // 3; 4 11, 3 4, 11 3
		{list(7, 2, 1, 1), [3][]api.Strip{{l[0]}, {short(1, 7)}, {l[2]}}},
		{list(1), [3][]api.Strip{{short(0, 1)}, {}, {short(2, 1)}}},
		{list(2), [3][]api.Strip{{l[0]}, {l[1]}, {}}},
		{list(0), [3][]api.Strip{}},
		{list(3), [3][]api.Strip{}},
		{list(-1), [3][]api.Strip{{l[0]}, {l[1]}, {l[2]}}},
		{list(-2), [3][]api.Strip{{short(0, 9)}, {short(1, 9)}, {}}},
		{list(math.MaxInt), [3][]api.Strip{{short(0, choice(math.MaxInt, 11))}, {short(1, choice(math.MaxInt, 11))}, {short(2, choice(math.MaxInt, 11))}}},
		{list(math.MinInt), [3][]api.Strip{{}, {short(1, choice(math.MinInt, 11))}, {short(2, choice(math.MinInt, 11))}}},
	} {
		want(t, c.picks, api.Bound{Strips: c.left}, api.OK)(book.Tear(b, c.picks), api.OK)
	}
}

// TestSewnStays: strips that are sewn are only lost with their quire, whatever Sewn is.
func TestSewnStays(t *testing.T) {
	log := plainLog(2, 4)
	for _, n := range list(math.MinInt, -1, 0, 1, 2, 3, 4, 5, math.MaxInt) {
		b := wholeBound(log)
		b.Sewn = [3]int{n, n, n}
		kept := max(0, min(n, 4))
		for eaten := range 4 {
			var left api.Bound
			for quire := range 3 {
				if quire != eaten {
					left.Strips[quire], left.Sewn[quire] = b.Strips[quire][:kept], kept
				}
			}
			want(t, []int{n, eaten}, left, api.OK)(book.Tear(b, append(list(eaten), make([]int, 100)...)), api.OK)
		}
	}
}

// TestOpenOfAny: whatever is bound.
func TestOpenOfAny(t *testing.T) {
	some, all := 0, 0
	rounds(43, 8000, func(r *rand.Rand) {
		b := anyBound(r, oneOf(r, 3, 3, 12, 60))
		due, log := opened(b)
		wantBoth(t, b, due, log)(book.Open(b))
		if n := len(b.Strips[0]); len(log) > 0 && len(log) < n {
			some++
		} else if len(log) == n && n > 0 {
			all++
		}
	})
	if some < 1000 || all < 1000 {
		t.Error("tried:", some, all)
	}
}

// wantOpened wants what is bound to have a log, in all orders of its strips that leave those of one No as they are, and whatever is sewn.
func wantOpened(t *testing.T, what any, b api.Bound, log []api.Record) {
	t.Helper()
	whole := sewn(wholeBound(log))
	wantBoth(t, what, whole, log)(book.Open(b))
	wantBoth(t, what, whole, log)(book.Open(sewn(b)))
	b = copied(b)
	b.Sewn = [3]int{-1, 1000, math.MaxInt}
	for quire := range 3 {
		slices.SortStableFunc(b.Strips[quire], func(x, y api.Strip) int { return y.No - x.No })
	}
	wantBoth(t, what, whole, log)(book.Open(b))
}

// few are records whose texts have as many bytes, but for the last one, of another parish.
func few() []api.Record {
	return []api.Record{
		{At: item(2, 0), Kind: 5, Text: "abcd"}, {At: item(2, 1), Kind: 5, Text: "efgh"}, {At: item(2, 2), Kind: 5, Text: "ijkl"}, {At: item(4, 0), Kind: 5, Text: "m"},
	}
}

// TestOpenWithout: what is found if strips are missing, or not whole.
func TestOpenWithout(t *testing.T) {
	log := few()
	wantOpened(t, "nothing", api.Bound{}, nil)
	wantOpened(t, "all", wholeBound(log), log)
	for no := range log {
		for lost := range 8 {
			b := wholeBound(log)
			torn, doubled := copied(b), copied(b)
			var lostOf [3]bool
			missing := 0
			for quire := range 3 {
				if lost&(1<<quire) == 0 {
					continue
				}
				missing++
				lostOf[quire] = true
				b.Strips[quire] = slices.Delete(b.Strips[quire], no, no+1)
				s := &torn.Strips[quire][no]
				s.Text = s.Text[:len(s.Text)-1]
				doubled.Strips[quire] = slices.Insert(doubled.Strips[quire], no, *s) // the first one that is whole comes after it
			}
			left := log
			if missing > 1 {
				left = log[:no]
			}
			wantOpened(t, lostOf, b, left)
			wantOpened(t, lostOf, torn, left)
			wantOpened(t, lostOf, doubled, log)
		}
	}
}

// TestOpenOfOneQuire: strips of one quire alone, and of other quires, are not enough.
func TestOpenOfOneQuire(t *testing.T) {
	log := few()
	for quire := range 3 {
		var b api.Bound
		b.Strips[quire] = wholeBound(log).Strips[quire]
		wantOpened(t, quire, b, nil)
	}
	b := wholeBound(log)
	b.Strips[0], b.Strips[2] = b.Strips[2], b.Strips[0]
	others := few()
	others[0].Text, others[1].Text, others[2].Text = "DbHd", "LfPh", "TjXl" // the sums are read as what they are not
	wantOpened(t, "other quires", b, others)
	b.Strips[0], b.Strips[1] = b.Strips[1], b.Strips[0]
	wantOpened(t, "other quires", b, nil)
}

// stripsAt returns what is bound of three quires that have the strips of some records, all as the No 0; each record is in the quires that the bits of its place tell.
func stripsAt(records []api.Record, quires ...int) api.Bound {
	var b api.Bound
	for i, x := range records {
		for quire, s := range stripsOf(x, 0) {
			if quires[i]&(1<<quire) != 0 {
				b.Strips[quire] = append(b.Strips[quire], s)
			}
		}
	}
	return b
}

// TestOpenOfPairs: of several pairs of quires with strips of one Size the first one is mended, and no other one.
func TestOpenOfPairs(t *testing.T) {
	const in0, in1, in2 = 1, 2, 4
	a := api.Record{At: item(2, 0), Kind: 5, Text: "abcd"}
	b := api.Record{At: item(2, 0), Kind: 5, Text: "efgh"}        // of the same Size
	long := api.Record{At: item(2, 0), Kind: 5, Text: "a longer"} // of another one
	longest := api.Record{At: item(2, 0), Kind: 5, Text: "longer than that"}
	mixed := func(text string) []api.Record { return []api.Record{{At: item(2, 0), Kind: 5, Text: text}} }
	two := func(x, y api.Record, quires ...int) api.Bound { return stripsAt([]api.Record{x, y}, quires...) }

	wantOpened(t, "0 1, not 2", two(a, b, in0|in1, in2), mixed("abcd"))
	wantOpened(t, "0 1: half of each", two(a, b, in0, in1|in2), mixed("afch"))
	wantOpened(t, "0 1: half of each", two(a, b, in1, in0|in2), mixed("ebgd"))
	wantOpened(t, "0 1: another one in 2", two(a, long, in0|in1, in2), mixed("abcd"))
	wantOpened(t, "0 2: another one in 1", two(a, long, in0|in2, in1), mixed("abcd"))
	wantOpened(t, "1 2: another one in 0", two(a, long, in1|in2, in0), mixed("abcd"))
	wantOpened(t, "0 1: another one in 2", two(long, a, in0|in1, in2), mixed("a longer"))
	wantOpened(t, "0 2: another one in 1", two(long, a, in0|in2, in1), mixed("a longer"))
	wantOpened(t, "1 2: another one in 0", two(long, a, in1|in2, in0), mixed("a longer"))
	wantOpened(t, "three Sizes", stripsAt([]api.Record{a, long, longest}, in0, in1, in2), nil)

	wantOpened(t, "the first one of two", two(a, b, in0|in1|in2, in0|in1|in2), mixed("abcd"))
	wantOpened(t, "the first one of two", two(b, a, in0|in1|in2, in0|in1|in2), mixed("efgh"))
	wantOpened(t, "the first one of two", two(long, a, in0|in1|in2, in0|in1|in2), mixed("a longer"))
	wantOpened(t, "the first ones, which have different Sizes", two(long, a, in0, in0|in1), nil)
	wantOpened(t, "the first ones, which have different Sizes", two(long, a, in1, in0|in1), nil)
	wantOpened(t, "the first ones, two of which have one Size", two(long, a, in0, in0|in1|in2), mixed("abcd"))
	wantOpened(t, "the first ones, two of which have one Size", two(long, a, in1, in0|in1|in2), mixed("abcd"))
	wantOpened(t, "the first ones, two of which have one Size", two(long, a, in2, in0|in1|in2), mixed("abcd"))
}

// TestOpenOfNoRecord: if what is mended first is no record that is next, the log ends, whatever others there are.
func TestOpenOfNoRecord(t *testing.T) {
	const all = 7
	a := api.Record{At: item(2, 0), Kind: 5, Text: "abcd"}
	strange := stripsOf(a, 0)
	for quire := range strange {
		strange[quire].Text = "9" + strange[quire].Text[1:]
	}
	for quire, left := range [][]api.Record{nil, nil, {a}} { // 2 is not looked at
		b := stripsAt([]api.Record{a}, all)
		b.Strips[quire][0] = strange[quire]
		wantOpened(t, quire, b, left)
		b = stripsAt([]api.Record{a, a}, all, all)
		b.Strips[quire][0] = strange[quire]
		wantOpened(t, quire, b, left)
		b = stripsAt([]api.Record{a}, all)
		b.Strips[2][0] = strange[2]
		if quire != 2 {
			b.Strips[quire] = nil
			wantOpened(t, quire, b, nil)
		}
	}

	log := few()
	for _, c := range []struct {
		next api.Record
		left int
	}{
		{api.Record{At: item(2, 4), Kind: 5}, 4}, // a gap
		{api.Record{At: item(2, 3), Kind: 5}, 5},
		{api.Record{At: item(2, 2), Kind: 5, Text: "ijkl"}, 4}, // there already
		{api.Record{At: item(2, 0), Kind: 5}, 4},               // another one of an item
		{api.Record{At: item(5, 0), Kind: 5}, 5},
		{api.Record{At: item(5, 1), Kind: 5}, 4},
		{api.Record{At: item(4, 1), Of: item(4, 0)}, 5},
		{api.Record{At: item(4, 1), Of: item(4, 1)}, 4}, // none that is valid
		{api.Record{At: item(2, 3), Kind: 61}, 4},
		{api.Record{At: item(6, 0), Kind: 1}, 4},
	} {
		l := slices.Concat(log, []api.Record{c.next, {At: item(3, 0), Kind: 1}})
		left := l[:c.left]
		if c.left == 5 {
			left = l
		}
		wantOpened(t, c.next, wholeBound(l), left)
	}
}

// TestOpenPlaces: strips are put in order by their No; after one that is missing there are no others, and beyond the last one of a full book none is whole.
func TestOpenPlaces(t *testing.T) {
	log := few()
	b := wholeBound(log)
	for quire := range 3 {
		slices.Reverse(b.Strips[quire])
	}
	wantOpened(t, "the other way round", b, log)
	for no := range 4 {
		later := wholeBound(log)
		for quire := range 3 {
			for i := no; i < 4; i++ {
				later.Strips[quire][i].No++
			}
		}
		wantOpened(t, no, later, log[:no])
	}
	all := plainLog(2, 62)
	wantOpened(t, "too many", wholeBound(all), all[:60])
	wantOpened(t, "all", wholeBound(all[:60]), all[:60])
	one := stripsAt([]api.Record{key()}, 7)
	for _, no := range list(math.MinInt, -1, 1, 59, 60, math.MaxInt) {
		for quire := range 3 {
			one.Strips[quire][0].No = no
		}
		wantOpened(t, no, one, nil)
	}
}

// TestManyStrips: what is bound with far more strips than there can be.
func TestManyStrips(t *testing.T) {
	log := few()
	b := wholeBound(log)
	for quire := range 3 {
		b.Strips[quire] = append(slices.Repeat([]api.Strip{{No: 1, Size: 20, Text: "short"}, {No: 70}}, 200000), b.Strips[quire]...)
	}
	wantOpened(t, "many strips", b, log)
	wantError(t, "many strips", api.ErrQuires, book.CheckBound(b, log))
	want(t, "many strips", sewn(b), api.OK)(book.Sew(b), api.OK)
	want(t, "many strips", torn(b, list(1, 2, 3)), api.OK)(book.Tear(b, list(1, 2, 3)), api.OK)
}
