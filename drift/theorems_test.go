package drift_test

import (
	"math"
	"math/rand"
	"slices"
	"testing"

	"leazing/api"
	"leazing/drift"
)

// P4.5 and P4.6: what is no less with more, and turns; and who moves the least gain.

// TestMore: P4.5.
func TestMore(t *testing.T) {
	r := rand.New(rand.NewSource(40))
	more, same := 0, 0
	compare := func(what string, s, other scene) {
		t.Helper()
		before, e := drift.Least(s.g, s.l)
		after, f := drift.Least(other.g, other.l)
		if e != api.OK || f != api.OK {
			t.Fatalf("%s, %+v, %+v: errors %d and %d", what, s, other, e, f)
		}
		sign, e := drift.Compare(after, before)
		if sign < 0 || e != api.OK {
			t.Fatalf("%s, %+v, %+v: %v was %v before", what, s, other, after, before)
		}
		more, same = more+sign, same+1-sign
	}
	scenes(40, 1500, great, func(s scene) {
		if _, ok := s.best(); !ok {
			return
		}
		for i := range s.l {
			wider, fewer, richer := s.clone(), s.clone(), s.clone()
			wider.l[i].From -= r.Intn(s.l[i].From + 1)
			wider.l[i].To += r.Intn(len(s.g.Cells) - s.l[i].To)
			compare("more cells", s, wider)
			fewer.l[i].Heads = 1 + r.Intn(s.l[i].Heads)
			compare("fewer heads", s, fewer)
			cell := &richer.g.Cells[r.Intn(len(s.g.Cells))]
			cell.Worth += r.Intn(10001 - cell.Worth)
			compare("worth more", s, richer)
			if len(s.l) > 1 {
				compare("without a family", s, s.without(i))
			}
		}
	})
	if more < 500 || same < 500 {
		t.Error("more:", more, "the same:", same)
	}
}

// TestMoved: those without whose claim the least gain is another one, or there is one, or no claim.
func TestMoved(t *testing.T) {
	for i, most := range []size{small, great} {
		shared, narrow := 0, 0
		scenes(int64(41+i), 1000, most, func(s scene) {
			best, ok := s.best()
			var moved []int
			for i, c := range s.l {
				other, otherOk := s.without(i).best()
				if len(s.l) == 1 || other != best || otherOk != ok {
					moved = append(moved, c.Family)
				}
			}
			if ok {
				shared += len(moved)
			} else {
				narrow += len(moved)
			}
			wantList(t, s, moved, api.OK)(drift.Moved(s.g, s.l))
		})
		if shared < 500 || narrow < 100 {
			t.Error(most, "moved:", shared, "and where there is no sharing:", narrow)
		}
	}
}

// TestMovedByNone: crowds of three, which one less does not help.
func TestMovedByNone(t *testing.T) {
	s := scene{laid(1, 24), many(3)}
	for i := range s.l {
		s.l[i].From, s.l[i].To = 7, 7
	}
	wantList(t, s, list(), api.OK)(drift.Moved(s.g, s.l))
	s.l[1].To = 23
	wantList(t, s, list(5), api.OK)(drift.Moved(s.g, s.l))
	wantList(t, s, list(5), api.OK)(drift.Moved(s.g, s.l[2:]))
}

// TestTurns: P4.6.
func TestTurns(t *testing.T) {
	scenes(43, 300, great, func(s scene) {
		n := len(s.l)
		for day := range 30 {
			turned, e := drift.Turn(s.g, s.l, day)
			var want []api.Claim
			for i := range n {
				want = append(want, s.l[(i+day)%n])
			}
			wantList(t, day, want, e)(turned, api.OK)
			wantList(t, day, want, api.OK)(drift.Turn(s.g, s.l, day+n))
			wantList(t, day, want, api.OK)(drift.Turn(s.g, s.l, day+n*((4166-day)/n)))
			next, _ := drift.Turn(s.g, s.l, day+1)
			wantList(t, day, next, api.OK)(drift.Turn(s.g, turned, 1))
		}
		wantList(t, "the day 0", s.l, api.OK)(drift.Turn(s.g, s.l, 0))
		wantList(t, "the first claims again", s.l, api.OK)(drift.Turn(s.g, s.l, n))
		checkEachFirst(t, s)
	})
	for _, day := range list(math.MinInt, -12, -1, 4167, 4168, math.MaxInt) {
		wantList(t, day, []api.Claim{}, api.ErrDay)(drift.Turn(ground(), claims(), day))
	}
}

// checkEachFirst wants each family to be first just once in as many days as there are families.
func checkEachFirst(t *testing.T, s scene) {
	t.Helper()
	for _, from := range list(0, 1, 700, 4166-len(s.l)+1) {
		var first, all []int
		for i := range s.l {
			turned, e := drift.Turn(s.g, s.l, from+i)
			if e != api.OK || len(turned) != len(s.l) {
				t.Fatalf("%+v: %v, error %d on the day %d", s, turned, e, from+i)
			}
			first, all = append(first, turned[0].Family), append(all, s.l[i].Family)
		}
		slices.Sort(first)
		slices.Sort(all)
		if !slices.Equal(first, all) {
			t.Fatalf("%+v: first are %v", s, first)
		}
	}
}

// TestTurnedShares: the fairest sharing of each day's claims.
func TestTurnedShares(t *testing.T) {
	scenes(44, 150, great, func(s scene) {
		for day := range s.l {
			turned, e := drift.Turn(s.g, s.l, day)
			if e != api.OK {
				t.Fatal(e)
			}
			checkFairest(t, scene{s.g, turned})
		}
	})
}
