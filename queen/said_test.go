package queen_test

import (
	"math"
	"math/rand"
	"slices"
	"testing"

	"leazing/api"
	"leazing/family"
	"leazing/queen"
	"leazing/relief"
	"leazing/sack"
	"leazing/settle"
	"leazing/sheaf"
)

// P10.2: what the records of a book say.

// checkSaid wants what a book says, and returns how much that is.
func checkSaid(t *testing.T, b api.Book) int {
	t.Helper()
	due := heard(b)
	for _, field := range list(1, 2, 3, 99) {
		want(t, b, *due.plots[field], api.OK)(queen.Plot(b, field))
	}
	for _, known := range list(0, 1, 5, 11, 4166) {
		want(t, list[any](known, b), due.proofsKnown(known), api.OK)(queen.Proofs(b, known))
	}
	want(t, b, due.kin, api.OK)(queen.Kin(b))
	want(t, b, due.sacks, api.OK)(queen.Sacks(b))
	want(t, b, due.relief, api.OK)(queen.Relief(b))
	n := len(due.proofs) + len(due.kin.Stays) + len(due.kin.Bonds) + len(due.kin.Aways) + len(due.kin.Offences)
	n += len(due.sacks.Passes) + len(due.sacks.Hoards) + len(due.relief.Needs) + len(due.relief.Crops) + len(due.relief.Findings)
	return n + len(due.relief.Mades) + len(due.plots[1].Loads) + len(due.plots[2].Stands) + len(due.plots[1].Spells)
}

// TestSaid: random books, of which many records say nothing.
func TestSaid(t *testing.T) {
	said, records := 0, 0
	rounds(10, 1500, func(r *rand.Rand) {
		b := anyBook(r)
		said += checkSaid(t, b)
		records += len(b.Records)
	})
	if said < 12000 || said > records*2/3 {
		t.Error("tried:", said, records)
	}
}

// TestSaidIsValid: what is said is valid for the layers.
func TestSaidIsValid(t *testing.T) {
	rounds(11, 300, func(r *rand.Rand) {
		b := anyBook(r)
		for _, field := range list(1, 2, 99) {
			if e := sheaf.Check(must[api.Plot](t, b)(queen.Plot(b, field))); e != api.OK {
				t.Fatalf("%s: the plot %d: error %d", short(b), field, e)
			}
		}
		for _, e := range list(
			settle.Check(must[[]api.Proof](t, b)(queen.Proofs(b, r.Intn(12)))),
			family.Check(must[api.Kin](t, b)(queen.Kin(b))),
			sack.Check(must[api.Sacks](t, b)(queen.Sacks(b))),
			relief.Check(must[api.Relief](t, b)(queen.Relief(b))),
		) {
			if e != api.OK {
				t.Fatalf("%s: error %d", short(b), e)
			}
		}
	})
}

// bookOf returns the book of a parish's records, with the numbers that they have then.
func bookOf(parish int, records ...api.Record) api.Book {
	for i := range records {
		records[i].At = api.Item{Parish: parish, No: i}
		if records[i].Kind == 0 {
			records[i].Of.Parish = parish
		}
	}
	return api.Book{Records: records}
}

// record and gone return a record, and one that withdraws one.
func record(kind, day, known int, text string) api.Record {
	return api.Record{Kind: kind, Day: day, Known: known, Text: text}
}

func gone(known, no int) api.Record {
	return api.Record{Known: known, Of: api.Item{No: no}}
}

// TestSaidByEachKind: one record of each kind, with all that it says.
func TestSaidByEachKind(t *testing.T) {
	b := bookOf(2,
		record(1, 7, 3, "9 100 4 5"), record(2, 7, 3, "9 101 0 6"), record(3, 7, 3, "9 2 30 40"),
		record(4, 7, 3, "3 0 11 12 0 5 90"), record(5, 7, 3, "11 4 1 2 3 4"), record(6, 7, 3, "5 4 1 2 3 4"),
		record(7, 7, 3, "11 12 1 2 3 4"), record(8, 7, 3, "11"), record(9, 7, 3, "0 4 10 20 88"), record(10, 7, 3, "4 1 2"),
		record(11, 7, 3, "4 8 6"), record(12, 7, 3, "4 8 10 20"), record(13, 7, 3, "4 8 9"), record(14, 7, 3, "4 15"),
		gone(8, 0), gone(8, 13), gone(4, 13),
	)
	want(t, "Plot", api.Plot{
		Loads:  list(api.Load{Source: 20001, Hour: 100, Sheaves: api.Range{Lo: 4, Hi: 5}, Known: 3, Until: 8}),
		Stands: list(api.Stand{Source: 20002, Hour: 101, Sheaves: api.Range{Lo: 0, Hi: 6}, Known: 3}),
		Spells: list(api.Spell{Source: 20003, Kind: 2, From: 30, To: 40, Known: 3}),
	}, api.OK)(queen.Plot(b, 9))
	want(t, "another Plot", api.Plot{}, api.OK)(queen.Plot(b, 8))
	want(t, "Proofs", list(api.Proof{Source: 20004, Kind: 3, Persons: list(11, 12), Parish: 5, Day: 7, Through: 90, Known: 3}), api.OK)(queen.Proofs(b, 3))
	want(t, "earlier Proofs", []api.Proof{}, api.OK)(queen.Proofs(b, 2))
	from, till := api.Range{Lo: 1, Hi: 2}, api.Range{Lo: 3, Hi: 4}
	want(t, "Kin", api.Kin{
		Stays:    list(api.Stay{Source: 20005, Person: 11, Family: 4, From: from, Till: till, Known: 3}),
		Bonds:    list(api.Bond{Source: 20006, Family: 5, With: 4, From: from, Till: till, Known: 3}),
		Aways:    list(api.Away{Source: 20007, Person: 11, By: 12, From: from, Till: till, Known: 3}),
		Offences: list(api.Offence{Source: 20008, Person: 11, Day: 7, Known: 3}),
	}, api.OK)(queen.Kin(b))
	want(t, "Sacks", api.Sacks{
		Passes: list(api.Pass{Source: 20009, To: 4, Day: 7, Gallons: api.Range{Lo: 10, Hi: 20}, Cert: 88, Known: 3}),
		Hoards: list(api.Hoard{Source: 20010, Family: 4, Day: 7, Gallons: from, Known: 3}),
	}, api.OK)(queen.Sacks(b))
	want(t, "Relief", api.Relief{
		Needs:    list(api.Need{Source: 20011, Family: 4, Week: 8, Heads: 6, Known: 3}),
		Crops:    list(api.Crop{Source: 20012, Family: 4, Week: 8, Gallons: api.Range{Lo: 10, Hi: 20}, Known: 3}),
		Findings: list(api.Finding{Source: 20013, Family: 4, From: 8, To: 9, Known: 3}),
		Mades:    list(api.Made{Source: 20014, Family: 4, Gallons: 15, Known: 3, Until: 8}),
	}, api.OK)(queen.Relief(b))
}

// TestSaidByText: which Texts of an offence, of a pass and of a proof say something.
func TestSaidByText(t *testing.T) {
	for _, c := range []struct {
		kind int
		text string
		says bool
	}{
		{8, "1", true}, {8, "999", true}, {8, "0", false}, {8, "1000", false}, {8, "", false}, {8, "01", false}, {8, "+1", false},
		{8, "-1", false}, {8, " 1", false}, {8, "1 ", false}, {8, "1 1", false}, {8, "1a", false}, {8, "000000001", false},
		{9, "0 1 2 3 0", true}, {9, "0 1 2 3 99999", true}, {9, "0 1  2 3 0", false}, {9, "0 1 2 3", false}, {9, "0 1 2 3 0 0", false},
		{9, "0 1 2 3 00", false}, {9, "0 1 2 3 -0", false}, {9, "0 1 3 2 0", false}, {9, "0 1 2 3 100000", false},
		{9, "0 1 2 999999999 0", false}, {9, "0 1 2 1000000000 0", false}, {9, "0 0 2 3 0", false}, {9, "1 2 2 3 7", false},
		{4, "1 0 0 5 0 0 0", true}, {4, "1 0 5 6 0 0 0", true}, {4, "1 5 6 7 0 0 0", true}, {4, "1 0 0 0 0 0 0", false},
		{4, "1 5 0 0 0 0 0", false}, {4, "1 0 5 0 0 0 0", false}, {4, "1 5 0 6 0 0 0", false}, {4, "1 0 6 5 0 0 0", false},
		{4, "1 0 5 5 0 0 0", false}, {4, "1 0 0 5 0 6 0", false}, {4, "9 0 0 5 0 0 0", false},
	} {
		b := bookOf(0, record(c.kind, 3, 2, c.text))
		said := checkSaid(t, b)
		if (said == 1) != c.says {
			t.Errorf("%d %q: says %d", c.kind, c.text, said)
		}
	}
}

// TestSaidOfFields: a load says something of the fields 1 to MaxField alone.
func TestSaidOfFields(t *testing.T) {
	for _, kind := range list(1, 2, 3) {
		for field := range 102 {
			b := bookOf(1, record(kind, 0, 0, textOf(field, 1, 2, 3)))
			for _, asked := range list(1, 50, 98, 99) {
				p := must[api.Plot](t, b)(queen.Plot(b, asked))
				if n := len(p.Loads) + len(p.Stands) + len(p.Spells); (n == 1) != (field == asked) {
					t.Errorf("%s: %d say something of %d", short(b), n, asked)
				}
			}
		}
	}
}

// TestWithdrawn: what is withdrawn counts until the first record that withdraws it is known; if that is known no later, it says nothing.
func TestWithdrawn(t *testing.T) {
	for _, c := range []struct {
		by    []api.Record
		says  bool
		until int
	}{
		{nil, true, 0},
		{list(gone(6, 0)), true, 6},
		{list(gone(5, 0)), false, 0},
		{list(gone(1, 0)), false, 0},
		{list(gone(0, 0)), true, 0}, // Until is 0 then, which is for ever
		{list(gone(4166, 0)), true, 4166},
		{list(gone(9, 0), gone(6, 0)), true, 9},
		{list(gone(9, 0), gone(2, 0)), true, 9},
		{list(gone(2, 0), gone(9, 0)), false, 0},
		{list(gone(9, 0), gone(7, 1)), true, 9}, // who withdraws may be withdrawn: nothing comes of it
	} {
		b := bookOf(3, append(list(record(8, 4, 5, "7")), c.by...)...)
		var due []api.Offence
		if c.says {
			due = list(api.Offence{Source: 30001, Person: 7, Day: 4, Known: 5, Until: c.until})
		}
		want(t, b, api.Kin{Offences: due}, api.OK)(queen.Kin(b))
	}
	// Another parish's record of the same number is another one.
	b := api.Book{Records: append(bookOf(1, record(8, 4, 5, "7")).Records, bookOf(2, record(8, 4, 5, "7"), gone(6, 0)).Records...)}
	want(t, b, api.Kin{Offences: list(
		api.Offence{Source: 10001, Person: 7, Day: 4, Known: 5}, api.Offence{Source: 20001, Person: 7, Day: 4, Known: 5, Until: 6},
	)}, api.OK)(queen.Kin(b))
}

// TestProofsBeyondReadings: a proof by which there would be too many readings is passed over, and those behind it are not.
func TestProofsBeyondReadings(t *testing.T) {
	three, two, one := record(4, 1, 0, "8 1 2 3 0 0 0"), record(4, 1, 0, "8 0 4 5 0 0 0"), record(4, 1, 0, "8 0 0 6 0 0 0")
	var records []api.Record
	for range 6 {
		records = append(records, three) // 729 readings
	}
	records = append(records, three, two, two, one, three) // 2187 would be too many, 1458 are not
	records[0].Known = 5
	b := bookOf(0, records...)
	sources := func(known int) []int {
		var l []int
		for _, p := range must[[]api.Proof](t, b)(queen.Proofs(b, known)) {
			l = append(l, p.Source)
		}
		return l
	}
	if l := sources(5); !slices.Equal(l, list(1, 2, 3, 4, 5, 6, 8, 10)) {
		t.Error("as known on the day 5:", l)
	}
	if l := sources(4); !slices.Equal(l, list(2, 3, 4, 5, 6, 7, 8, 10)) {
		t.Error("as known on the day 4:", l)
	}
}

// TestErrorsOfBooks: ErrBook is the first error; then come ErrArg and ErrDay. With an error nothing is returned.
func TestErrorsOfBooks(t *testing.T) {
	right := bookOf(0, record(8, 4, 5, "7"))
	gap := bookOf(0, record(8, 4, 5, "7"), record(8, 4, 5, "7"))
	gap.Records[1].At.No = 2
	wrong := []api.Book{
		gap,
		{Records: list(api.Record{At: api.Item{Parish: 6}, Kind: 1})},
		{Records: slices.Repeat(right.Records, 61)},
		{Records: list(api.Record{Kind: 8, Text: "7\n"})},
		{Records: list(api.Record{Kind: 61})},
	}
	for _, b := range wrong {
		for _, n := range list(1, 0, -1, 100, math.MinInt, math.MaxInt) {
			want(t, b, api.Plot{}, api.ErrBook)(queen.Plot(b, n))
			want(t, b, []api.Proof{}, api.ErrBook)(queen.Proofs(b, n))
		}
		want(t, b, api.Kin{}, api.ErrBook)(queen.Kin(b))
		want(t, b, api.Sacks{}, api.ErrBook)(queen.Sacks(b))
		want(t, b, api.Relief{}, api.ErrBook)(queen.Relief(b))
	}
	for _, n := range list(0, -1, 100, math.MinInt, math.MaxInt) {
		want(t, n, api.Plot{}, api.ErrArg)(queen.Plot(right, n))
	}
	for _, n := range list(-1, 4167, math.MinInt, math.MaxInt) {
		want(t, n, []api.Proof{}, api.ErrDay)(queen.Proofs(right, n))
	}
	for _, none := range []api.Book{{}, {Records: []api.Record{}}} {
		checkSaid(t, none)
	}
}
