package queen_test

import (
	"fmt"
	"slices"
	"strings"
	"testing"

	"leazing/api"
	"leazing/queen"
)

// P10.2 and P10.5, at the limits: what is set up, records, letters and peals. All answers are written out.

// tellEach does lines one after the other, and wants an answer of one line for each.
func tellEach(t *testing.T, q *queen.Queen, lines ...string) {
	t.Helper()
	for i := 0; i+1 < len(lines); i += 2 {
		c, _, e := queen.Parse(lines[i])
		if e != api.OK {
			t.Fatalf("%q: error %d", lines[i], e)
		}
		if answer := strings.Join(checkDo(t, q, c), "|"); answer != lines[i+1] {
			t.Errorf("%q: %q, want %q", lines[i], answer, lines[i+1])
		}
	}
}

func meadow(field, lo, hi, geese int) api.Meadow {
	return api.Meadow{Field: field, Sown: api.Range{Lo: lo, Hi: hi}, Geese: geese}
}

// TestFields: by their number: at the place of an old one, between two, and beyond MaxFields.
func TestFields(t *testing.T) {
	q := queen.New()
	tellEach(t, q,
		"field 0 1 2 3", "error 1", "field 100 1 2 3", "error 1", "field -1 1 2 3", "error 1", "field 0 2 1 99", "error 1",
		"field 1 2 1 3", "error 13", "field 1 -1 1 3", "error 13", "field 1 0 10001 3", "error 13", "field 1 0 1 61", "error 13", "field 1 0 1 -1", "error 13",
		"field 50 0 10000 60", "ok", "field 99 0 0 0", "ok", "field 1 1 1 1", "ok", "field 70 2 2 2", "ok", "field 50 3 3 3", "ok",
	)
	due := list(meadow(1, 1, 1, 1), meadow(50, 3, 3, 3), meadow(70, 2, 2, 2), meadow(99, 0, 0, 0))
	if m := q.Setting().Meadows; !slices.Equal(m, due) {
		t.Errorf("%+v", m)
	}
	for n := range 6 {
		tellEach(t, q, fmt.Sprint("field ", 10+n, " 0 1 0"), "ok")
	}
	tellEach(t, q, "field 2 0 1 0", "error 2", "field 98 0 1 0", "error 2", "field 2 1 0 0", "error 13", "field 100 0 1 0", "error 1")
	tellEach(t, q, "field 10 7 7 7", "ok", "field 1 7 7 7", "ok", "field 99 7 7 7", "ok")
	if m := q.Setting().Meadows; len(m) != 10 || m[1] != meadow(10, 7, 7, 7) || m[9] != meadow(99, 7, 7, 7) {
		t.Errorf("%+v", m)
	}
}

// TestGround: chains by their number, cells and claims behind the others, and blank.
func TestGround(t *testing.T) {
	q := queen.New()
	tellEach(t, q,
		"chain 0 1 2", "error 40", "chain 100 1 2", "error 40", "chain 1 2 1", "error 40", "chain 1 0 1", "error 40", "chain 1 1 1001", "error 40",
		"chain 9 1 1000", "ok", "chain 99 1 2", "ok", "chain 1 3 4", "ok", "chain 50 5 6", "ok", "chain 9 7 8", "ok",
		"cell 0 1 1", "error 41", "cell 1 1001 1", "error 41", "cell 1 1 10001", "error 41", "cell 1 0 0", "error 41", "cell 1 1 -1", "error 41",
		"claim 0 1 0 0", "error 43", "claim 1 21 0 0", "error 43", "claim 1 1 1 0", "error 43", "claim 1 1 0 24", "error 43", "claim 100 1 0 0", "error 43",
		"share 0", "error 42", "crowded", "error 42", "length 0 0", "error 42",
	)
	due := list(
		api.Chain{Id: 1, Link: api.Range{Lo: 3, Hi: 4}}, api.Chain{Id: 9, Link: api.Range{Lo: 7, Hi: 8}},
		api.Chain{Id: 50, Link: api.Range{Lo: 5, Hi: 6}}, api.Chain{Id: 99, Link: api.Range{Lo: 1, Hi: 2}},
	)
	if l := q.Setting().Ground.Chains; !slices.Equal(l, due) {
		t.Errorf("%+v", l)
	}
	tellEach(t, q, "chain 2 1 1", "ok", "chain 98 1 1", "ok", "chain 3 1 1", "error 2", "chain 3 2 1", "error 40", "chain 98 2 2", "ok")
	for n := range 24 {
		tellEach(t, q, fmt.Sprint("cell 1 1 ", n), "ok")
	}
	tellEach(t, q, "cell 1 1 1", "error 2", "cell 1 0 1", "error 41", "length 0 23", "72 96", "length 0 24", "error 45", "length 1 0", "error 45")
	for n := range 12 {
		tellEach(t, q, fmt.Sprint("claim 7 ", n+1, " 0 23"), "ok")
	}
	tellEach(t, q, "claim 8 1 0 0", "error 2", "claim 8 0 0 0", "error 43", "share 0", "error 44", "crowded", "error 44")
	s := q.Setting()
	if len(s.Ground.Cells) != 24 || s.Ground.Cells[23] != (api.Cell{Chain: 1, Links: 1, Worth: 23}) || len(s.Claims) != 12 || s.Claims[11].Heads != 12 {
		t.Errorf("%+v", s)
	}
	tellEach(t, q, "field 1 0 1 0", "ok", "yield 1 2 3", "ok", "mill 3", "ok", "scale 5 6", "ok", "blank", "ok", "blank", "ok")
	due2 := api.Setting{Meadows: list(meadow(1, 0, 1, 0)), Yield: api.Yield{Gallons: api.Range{Lo: 1, Hi: 2}, Toll: 3}, Scales: list(api.Scale{From: 5, Bread: 6})}
	if s := q.Setting(); !same(s, due2) {
		t.Errorf("%+v", s)
	}
}

// TestDrifts: shares, and crowds.
func TestDrifts(t *testing.T) {
	q := queen.New()
	tellEach(t, q,
		"chain 1 98 102", "ok", "chain 2 99 100", "ok",
		"cell 1 10 6", "ok", "cell 1 5 2", "ok", "cell 2 10 4", "ok", "cell 2 5 9", "ok", "cell 1 10 3", "ok",
		"share 0", "error 44", "claim 7 2 0 3", "ok", "claim 4 1 1 4", "ok", "claim 9 3 2 4", "ok",
		"length 0 1", "1470 1530", "length 0 2", "2460 2530",
		"share 0", "gain 4 1|0 1|2 2|3 4", "share 3", "gain 4 1|0 1|2 2|3 4", "share 1", "gain 4 3|1 1|2 2|3 3",
		"share -1", "error 6", "share 4167", "error 6", "crowded", "error 48",
		"claim 5 1 3 4", "ok", "claim 6 1 3 4", "ok", "claim 8 1 4 4", "ok", "share 0", "error 47", "crowded", "0 5", "share 4167", "error 6",
		"chain 3 1 1", "ok", "cell 4 1 1", "ok", "share 4167", "error 42", "crowded", "error 42",
	)
	tellEach(t, q,
		"blank", "ok", "chain 1 1 1", "ok", "cell 1 1 1", "ok", "cell 1 1 1", "ok", "claim 9 1 0 1", "ok", "claim 8 1 0 1", "ok", "crowded", "error 48",
		"claim 7 1 1 1", "ok", "claim 6 1 1 1", "ok", "claim 5 1 1 1", "ok", "crowded", "0 2",
	)
}

// TestMill: yields, hours and comers.
func TestMill(t *testing.T) {
	q := queen.New()
	tellEach(t, q,
		"grind", "level 24|turns", "hours", "none", "level", "24", "flour 1 2", "error 50",
		"yield 2 1 16", "error 50", "yield 0 1001 16", "error 50", "yield 40 60 1", "error 50", "yield 40 60 101", "error 50", "yield 40 60 16", "ok",
		"flour 10 35", "4 20", "flour 2 1", "error 58", "flour 0 2001", "error 58",
		"comer 1 1 1", "error 51", "mill -1", "error 1", "mill 25", "error 1", "mill 24", "ok", "mill 6", "ok", "grind", "level 24|turns 0 0 0 0 0 0",
		"comer 7 64 4", "error 51", "comer 7 7 25", "error 51", "comer 0 7 4", "error 51", "comer 7 -1 4", "error 51",
		"comer 7 7 4", "ok", "comer 7 7 4", "error 51", "comer 4 6 1", "ok", "comer 9 28 3", "ok", "comer 2 24 2", "ok",
		"level", "1", "hours", "2 1 1 1",
	)
	for n := range 8 {
		tellEach(t, q, fmt.Sprint("comer ", 20+n, " 1 0"), "ok")
	}
	tellEach(t, q, "comer 50 1 0", "error 2", "comer 50 64 0", "error 51", "mill 1", "ok", "comer 50 1 0", "ok", "hours", "0")
}

// TestScales: by their number, and what bread they make.
func TestScales(t *testing.T) {
	q := queen.New()
	tellEach(t, q, "scale -1 1", "error 70", "scale 596 1", "error 70", "scale 0 101", "error 70", "scale 3 5", "ok", "scale 0 4", "ok", "scale 595 0", "ok", "scale 2 9", "ok", "scale 2 8", "ok")
	if l := q.Setting().Scales; !slices.Equal(l, list(api.Scale{From: 0, Bread: 4}, api.Scale{From: 2, Bread: 8}, api.Scale{From: 3, Bread: 5}, api.Scale{From: 595})) {
		t.Errorf("%+v", l)
	}
	for n := range 6 {
		tellEach(t, q, fmt.Sprint("scale ", 10+n, " 7"), "ok")
	}
	tellEach(t, q, "scale 9 7", "error 2", "scale 9 101", "error 70", "scale 15 6", "ok", "need 0 9 0 7 2 3", "record 0 0", "need 0 9 3 7 15 1", "record 0 1")
	tellEach(t, q,
		"bread 0 7 2 0", "24 24", "bread 0 7 15 2", "0 0", "bread 0 7 15 3", "6 6", "bread 1 7 2 0", "0 0",
		"crop 0 9 5 7 2 20 30", "record 0 2", "bread 0 7 2 5", "0 4", "account 0 7 20", "4 0", "account 0 7 13", "0 0",
		"finding 0 9 21 7 1 2", "record 0 3", "account 0 7 21", "24 20", "made 0 9 22 7 8", "record 0 4", "account 0 7 22", "24 12",
		"bread 0 100 596 9999", "error 1", "bread 0 7 596 9999", "error 78", "bread 0 7 2 4167", "error 6", "account 0 0 4167", "error 1", "account 0 7 4167", "error 6",
	)
}

// TestRecordErrors: for each kind first what is wrong with the command, then with what it would say, then with the record.
func TestRecordErrors(t *testing.T) {
	q := queen.New()
	tellEach(t, q,
		"load 0 -1 -1 0 -1 0 0", "error 1", "load 0 -1 -1 100 0 0 0", "error 1", "load 0 -1 -1 1 0 0 0", "error 10", "load 0 -1 0 1 100000 0 0", "error 10",
		"load 0 -1 0 1 0 2 1", "error 10", "load 0 4167 0 1 0 0 10000", "error 80", "load 0 -1 0 1 0 0 0", "error 80", "load 0 0 0 99 0 0 10000", "record 0 0",
		"stand 0 0 0 0 0 0 0", "error 1", "stand 0 -1 4167 1 0 0 0", "error 11", "stand 0 -1 4166 1 0 0 0", "error 80",
		"spell 0 0 0 100 0 0 0", "error 1", "spell 0 -1 0 1 3 0 0", "error 12", "spell 0 -1 0 1 1 2 1", "error 12", "spell 0 -1 0 1 1 1 2", "error 80",
		"proof 0 -1 0 9 5 0 0 0 0 0", "error 1", "proof 0 -1 0 9 0 5 0 0 0 0", "error 1", "proof 0 -1 0 9 5 0 6 0 0 0", "error 1", "proof 0 -1 0 1 5 0 -6 0 0 0", "error 1",
		"proof 0 0 0 1 0 0 0 0 0 0", "error 20", "proof 0 -1 0 1 0 0 5 0 0 0", "error 20", "proof 0 0 0 1 0 0 5 0 6 0", "error 20", "proof 0 0 0 1 0 -1 5 0 0 0", "error 20",
		"stay 0 -1 0 0 1 0 0 0 0", "error 30", "stay 0 -1 0 1 1 0 0 0 0", "error 80", "bond 0 -1 0 1 1 0 0 0 0", "error 31", "bond 0 -1 0 2 1 0 0 0 0", "error 80",
		"away 0 -1 0 1 1 0 0 0 0", "error 32", "away 0 -1 0 1 2 0 0 0 0", "error 80", "offence 0 -1 0 1", "error 33", "offence 0 4166 4167 1", "error 33",
		"pass 0 -1 0 0 1 0 0 0", "error 60", "pass 0 0 0 1 2 0 0 7", "error 60", "hoard 0 -1 0 1 0 0", "error 61", "need 0 -1 0 1 596 0", "error 71", "need 0 -1 0 1 0 0", "error 80",
		"crop 0 0 0 1 0 0 100001", "error 72", "finding 0 0 0 1 1 0", "error 73", "made 0 0 0 1 0", "error 74", "made 0 -1 0 1 1", "error 80",
		"made 0 0 0 1 1000000000", "error 74", "offence 6 0 0 0", "error 1", "offence -1 0 0 0", "error 1", "records", "records 1|records 0|records 0|records 0|records 0|records 0",
	)
}

// TestManyRecords: a book that is full, what is withdrawn, and from which source something comes.
func TestManyRecords(t *testing.T) {
	q := queen.New()
	for n := range 58 {
		tellEach(t, q, fmt.Sprint("pass 5 ", n, " 3 0 7 1 2 0"), fmt.Sprint("record 5 ", n))
	}
	tellEach(t, q,
		"withdraw 5 9 58", "error 3", "withdraw 5 9 -1", "error 3", "withdraw 4 9 0", "error 3", "withdraw 5 4167 3", "error 80", "withdraw 5 -1 3", "error 80",
		"have 5 7 99 3", "58 116", "went 5 50004 8", "1 2", "went 5 4 8", "error 68", "withdraw 5 9 3", "record 5 58", "withdraw 5 9 3", "error 1", "withdraw 5 9 58", "error 1",
		"have 5 7 99 8", "58 116", "have 5 7 99 9", "57 114", "went 5 50004 8", "1 2", "went 5 50004 9", "error 68",
		"withdraw 5 9 57", "record 5 59", "withdraw 5 9 60", "error 3", "withdraw 5 9 56", "error 2", "withdraw 5 9 59", "error 1", "withdraw 5 4167 56", "error 80",
		"made 5 0 0 1 1", "error 2", "made 5 -1 0 1 1", "error 80", "made 5 -1 0 0 1", "error 74",
		"load 5 0 0 0 0 0 0", "error 1", "proof 5 0 0 1 1 0 0 0 0 0", "error 1", "made 4 0 0 1 1", "record 4 0",
	)
}

// TestLetters: letters get lost, are doubled, and are no more than MaxLetters.
func TestLetters(t *testing.T) {
	q := queen.New()
	tellEach(t, q,
		"deliver 0", "error 3", "lose 0", "error 3", "double -1", "error 3", "send 0 0 0", "error 1", "send 0 6 0", "error 1", "send 0 1 6", "error 1", "send 0 -1 0", "error 1",
		"offence 0 0 0 1", "record 0 0", "send 0 1 0", "letters 1", "double 5", "letters 2", "send 2 3 2", "letters 3", "lose -1", "letters 2", "lose 3", "letters 1",
		"deliver -7", "letters 1", "deliver 1000000000", "letters 1", "deliver -1000000000", "letters 0", "records", "records 1|records 1|records 0|records 0|records 0|records 0",
	)
	tellEach(t, q, "offence 0 0 0 1", "record 0 1")
	for n := range 40 {
		tellEach(t, q, "send 4 5 3", fmt.Sprint("letters ", n+1))
	}
	tellEach(t, q, "send 0 1 0", "error 2", "double 0", "error 2", "send 0 0 0", "error 1", "deliver 0", "letters 39", "double 0", "letters 40", "deliver 39", "letters 39", "send 0 1 0", "letters 40")
	tellEach(t, q, "lose 39", "letters 39", "lose 40", "letters 38", "double 0", "letters 39")
}

// TestUnsent: a letter that is not sent, since there are too many, sews no strips: they may still be torn.
func TestUnsent(t *testing.T) {
	for _, full := range list(false, true) {
		q := queen.New()
		for n := range 39 {
			tellEach(t, q, "send 4 5 3", fmt.Sprint("letters ", n+1))
		}
		tellEach(t, q, "offence 0 0 0 1", "record 0 0")
		if full {
			tellEach(t, q, "double 0", "letters 40", "send 0 1 0", "error 2", "torn 0 3 0 0 0 0 0", "records 0")
		} else {
			tellEach(t, q, "send 0 1 0", "letters 40", "torn 0 3 0 0 0 0 0", "records 1")
		}
	}
}

// TestTorn: the picks are the six numbers, in order.
func TestTorn(t *testing.T) {
	for _, c := range []struct{ picks, left string }{
		{"3 2 0 2 0 2", "records 1"}, // each strip stays
		{"3 0 0 0 0 0", "records 0"}, // each strip is lost
		{"1 2 0 2 0 2", "records 1"}, // a quire is eaten, two are enough
		{"-3 2 0 2 0 2", "records 1"},
		{"0 2 0 0 0 2", "records 0"}, // one is not
		{"3 2 0 1 4 2", "records 1"}, // one strip is torn
		{"3 1 4 1 4 2", "records 0"},
	} {
		q := queen.New()
		tellEach(t, q, "offence 3 0 0 1", "record 3 0", "torn 3 "+c.picks, c.left)
	}
}

// TestFullReceivers: a letter that cannot be received is gone, and nothing of it is taken.
func TestFullReceivers(t *testing.T) {
	q := queen.New()
	for n := range 59 {
		tellEach(t, q, "offence 1 0 0 1", fmt.Sprint("record 1 ", n))
	}
	tellEach(t, q, "offence 0 0 0 1", "record 0 0", "offence 0 0 0 2", "record 0 1", "send 0 1 0", "letters 1", "deliver 0", "letters 1", "deliver 0", "letters 1", "double 0", "letters 2")
	tellEach(t, q, "deliver 0", "error 2", "records", "records 2|records 59|records 0|records 0|records 0|records 0")
	if n := len(q.Letters()); n != 1 {
		t.Error("letters:", n)
	}
	tellEach(t, q, "deliver 0", "error 2", "deliver 0", "error 3", "offence 1 0 0 1", "record 1 59")
}

// TestPeals: peals get lost, are heard again, and are no more than MaxPeals; one that cannot be heard is gone.
func TestPeals(t *testing.T) {
	q := queen.New()
	tellEach(t, q,
		"hear 0", "error 3", "miss -1", "error 3", "again 7", "error 3", "tell 1 1", "error 1", "tell 1 6", "error 1", "tell 1 -1", "error 1",
		"want 1 92", "error 94", "want 1 0", "error 94", "ring 4 91", "error 94", "shut 4 91", "error 94", "missing 4 91", "error 94", "who 0", "error 94", "who 100", "error 94",
	)
	for n := range 40 {
		tellEach(t, q, "tell 4 5", fmt.Sprint("peals ", n+1))
	}
	tellEach(t, q, "tell 4 5", "error 2", "tell 4 4", "error 1", "again 0", "error 2", "hear 40", "peals 39", "miss -1", "peals 38", "again -38", "peals 39", "again 0", "peals 40")
	for n := range 40 {
		tellEach(t, q, "hear 0", fmt.Sprint("peals ", 39-n))
	}
}

// TestFullWatches: a book of strokes that is full.
func TestFullWatches(t *testing.T) {
	q := queen.New()
	for range 60 {
		tellEach(t, q, "ring 0 91", "ok", "shut 0 91", "ok")
	}
	tellEach(t, q,
		"ring 0 91", "error 2", "shut 0 91", "error 96", "want 0 91", "error 2", "want 0 92", "error 94", "who 91", "none", "bind 0", "ok",
		"want 1 91", "ok", "bind 1", "ok", "tell 1 0", "peals 1", "again 0", "peals 2", "hear 0", "error 2",
	)
	if n := len(q.Peals()); n != 1 {
		t.Error("peals:", n)
	}
	tellEach(t, q, "tear 0 0", "ok", "want 0 91", "error 2", "recopy 0", "ok", "hear 0", "peals 0", "serve 0", "ok", "missing 0 91", "1", "missing 1 91", "0")
}

// TestBells: the order of errors, and who has a field open.
func TestBells(t *testing.T) {
	q := queen.New()
	tellEach(t, q,
		"missing 0 91", "none", "missing 1 91", "0", "missing 2 91", "0 1", "missing 5 93", "0 3 4", "missing 5 94", "1", "missing 2 92", "none",
		"ring 2 91", "error 97", "ring 0 91", "ok", "ring 0 91", "error 95", "want 0 91", "error 95", "ring 2 92", "ok", "ring 0 93", "ok", "ring 1 94", "ok",
		"who 91", "0", "who 92", "2", "who 93", "0", "who 94", "1", "who 1", "none", "shut 0 91", "ok", "shut 0 91", "error 96", "who 91", "none",
		"tear 0 0", "ok", "who 93", "none", "tear 1 -1", "ok", "who 94", "1", "tear 1 2", "ok", "who 94", "none",
	)
}

// TestFieldQueries: ErrNone comes first, if a field was not set up.
func TestFieldQueries(t *testing.T) {
	q := queen.New()
	for _, word := range list("open", "clear", "stood") {
		tellEach(t, q, word+" 0 1 -1 -1", "error 3", word+" 0 0 0 0", "error 3", word+" 0 100 0 0", "error 3", word+" 6 1 0 0", "error 1")
	}
	tellEach(t, q, "first 0 1 -1", "error 3", "misled 0 1 -1", "error 3", "field 1 10 10 0", "ok", "first 0 1 -1", "error 6", "misled 0 1 4167", "error 6")
	tellEach(t, q,
		"open 0 1 -1 -1", "error 7", "open 0 1 0 -1", "error 6", "clear 0 1 100000 0", "error 7", "stood 0 1 99999 4166", "10 10", "first 0 1 0", "100000 100000", "misled 0 1 0", "error 15",
		"load 3 0 2 1 40 10 10", "record 3 0", "first 3 1 1", "100000 100000", "first 3 1 2", "40 40", "clear 3 1 39 2", "no", "clear 3 1 40 2", "yes",
		"open 3 1 40 2", "yes", "open 3 1 43 2", "no", "load 3 0 3 2 1 11 11", "record 3 1", "load 3 0 3 1 60 1 1", "record 3 2", "stood 3 1 60 3", "error 14", "misled 3 1 3", "30001 30003",
		"open 2 1 40 2", "no", "spell 3 0 2 1 2 38 40", "record 3 3", "open 3 1 40 2", "no", "open 3 1 41 2", "yes", "open 3 1 56 2", "yes",
	)
}

// TestProofQueries: ErrDay comes first, if KNOWN is no day.
func TestProofQueries(t *testing.T) {
	q := queen.New()
	tellEach(t, q,
		"settled 0 0 -1 -1", "error 6", "settled 0 0 -1 0", "error 26", "settled 0 1 -1 0", "error 6", "right 0 0 6 -1 4167", "error 6", "right 0 0 6 -1 0", "error 26",
		"right 0 1 6 -1 0", "error 27", "right 0 1 5 -1 0", "error 6", "belong 0 6 0 -1", "error 6", "belong 0 6 0 0", "error 27", "readings 0 -1", "error 6", "readings 0 0", "1",
		"rests 0 0 0 0 4167", "error 6", "rests 0 0 0 0 4166", "error 26", "settled 0 5 10 0", "-1", "belong 0 0 10 0", "none", "rests 0 5 0 10 0", "none",
		"proof 0 10 1 1 0 0 5 0 2 0", "record 0 0", "proof 0 20 1 7 0 5 6 0 3 0", "record 0 1", "settled 0 5 25 1", "2 3", "right 0 5 3 25 1", "maybe", "settled 0 5 25 0", "-1",
		"belong 0 2 15 1", "5", "readings 0 1", "2", "rests 0 5 2 15 1", "1", "rests 0 5 2 25 1", "1 2", "right 0 5 2 19 1", "yes", "right 0 6 2 25 1", "no",
		"proof 0 30 2 1 0 0 5 0 4 0", "record 0 2", "readings 0 2", "0", "settled 0 5 25 2", "error 24", "withdraw 0 3 2", "record 0 3", "settled 0 5 25 3", "2 3",
	)
}

// TestFamilyQueries: families and heads.
func TestFamilyQueries(t *testing.T) {
	q := queen.New()
	tellEach(t, q,
		"families 0 0 0 0", "error 35", "sure 0 0 0 0", "error 36", "may 0 100 0 0", "error 36", "heads 0 0 -1 0", "error 36", "heads 0 1 -1 0", "error 6", "heads 0 1 0 -1", "error 6",
		"families 0 1 0 0", "0", "sure 0 1 0 0", "none", "may 0 1 0 0", "none", "heads 0 1 0 0", "0 0",
		"stay 0 0 0 10 3 0 0 100 100", "record 0 0", "stay 0 0 0 11 3 0 5 100 100", "record 0 1", "bond 0 0 8 3 2 0 0 100 100", "record 0 2", "offence 0 9 0 10", "record 0 3",
		"away 0 0 7 11 0 20 20 30 40", "record 0 4", "families 0 11 3 0", "0 3", "sure 0 3 3 0", "10", "may 0 3 3 0", "10 11", "heads 0 3 3 0", "1 2", "families 0 10 10 0", "0",
		"families 0 11 3 8", "0 2", "sure 0 2 10 8", "11", "heads 0 3 3 8", "0 0", "families 0 11 35 6", "3", "families 0 11 35 7", "0 3",
	)
}

// TestSackQueries: what families have, and fences.
func TestSackQueries(t *testing.T) {
	q := queen.New()
	tellEach(t, q,
		"have 0 0 0 0", "error 67", "have 0 1 -1 0", "error 67", "have 0 1 0 -1", "error 6", "went 0 1 0", "error 68", "went 0 1 -1", "error 6", "total 0 -1 0", "error 6", "cert 0 0 0", "error 1",
		"cert 0 77 0", "0 0", "fence 0 0", "error 64", "clash 0 0", "error 64", "fence 0 -1", "error 6", "clash 0 4167", "error 6", "have 0 1 0 0", "0 0", "total 0 0 0", "0 0",
		"pass 0 10 0 0 3 40 60 77", "record 0 0", "pass 0 20 0 3 5 0 30 0", "record 0 1", "hoard 0 20 5 3 25 40", "record 0 2", "hoard 0 10 9 3 0 39", "record 0 3",
		"have 0 3 10 5", "40 60", "have 0 3 20 5", "25 40", "went 0 2 5", "0 30", "went 0 1 5", "40 60", "total 0 10 5", "40 60", "cert 0 77 5", "40 60", "cert 0 77 9", "error 63",
		"have 0 3 10 9", "error 63", "total 0 10 9", "error 63", "clash 0 9", "4", "fence 0 9", "contradiction|fence yes 3 10", "fence 0 8", "error 64",
	)
}
