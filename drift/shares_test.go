package drift_test

import (
	"math"
	"math/rand"
	"slices"
	"testing"

	"leazing/api"
	"leazing/drift"
)

// P4.1, P4.3 and P4.4: sharings, what is gained by them, and the fairest one.

// checkSharing wants drifts to be accepted, and their gains to be told, exactly if they are a sharing.
func checkSharing(t *testing.T, s scene, drifts []api.Drift) bool {
	t.Helper()
	is := s.isSharing(drifts)
	if e := drift.CheckDrifts(s.g, s.l, drifts); e != verdict(is, api.ErrDrifts) {
		t.Fatalf("%+v, %v: error %d, a sharing: %t", s, drifts, e, is)
	}
	gains, e := drift.Gains(s.g, s.l, drifts)
	if !is {
		if e == api.OK || len(gains) > 0 {
			t.Fatalf("%+v, %v: gains %v, error %d", s, drifts, gains, e)
		}
		return false
	}
	var want []api.Gain
	for i, d := range drifts {
		want = append(want, s.gain(i, d))
	}
	if e != api.OK || !slices.Equal(gains, want) {
		t.Fatalf("%+v, %v: gains %v, error %d, want %v", s, drifts, gains, e, want)
	}
	return true
}

// TestAllLists: all lists of drifts for one claim or two on small grounds, and of what are no drifts.
func TestAllLists(t *testing.T) {
	accepted := 0
	scenes(20, 400, size{2, 3, 2}, func(s scene) {
		if len(s.l) > 2 || len(s.g.Cells) > 3 {
			return
		}
		var any []api.Drift
		for from := -1; from <= len(s.g.Cells); from++ {
			for to := -1; to <= len(s.g.Cells); to++ {
				any = append(any, cells(from, to))
			}
		}
		lists := [][]api.Drift{nil}
		for range 3 {
			var longer [][]api.Drift
			for _, l := range lists {
				if checkSharing(t, s, l) {
					accepted++
				}
				for _, d := range any {
					longer = append(longer, append(slices.Clone(l), d))
				}
			}
			lists = longer
		}
	})
	if accepted < 400 {
		t.Error("too few sharings:", accepted)
	}
}

// TestLists: sharings on all grounds, and lists that are nearly some.
func TestLists(t *testing.T) {
	r := rand.New(rand.NewSource(21))
	accepted, refused := 0, 0
	count := func(is bool) {
		if is {
			accepted++
		} else {
			refused++
		}
	}
	scenes(21, 2000, great, func(s scene) {
		drifts, ok := randomSharing(r, s)
		count(checkSharing(t, s, drifts))
		if !ok {
			return
		}
		count(checkSharing(t, s, append(slices.Clone(drifts), cells(0, 0))))
		count(checkSharing(t, s, append(slices.Clone(drifts), drifts[len(drifts)-1])))
		for i, d := range drifts {
			count(checkSharing(t, s, slices.Delete(slices.Clone(drifts), i, i+1)))
			for _, other := range row(d.From-1, d.To, d.From+1, d.To, d.From, d.To-1, d.From, d.To+1, d.To, d.From, d.From-1, d.To-1, d.From+1, d.To+1, math.MinInt, math.MaxInt, d.From, math.MaxInt, math.MinInt, d.To) {
				changed := slices.Clone(drifts)
				changed[i] = other
				count(checkSharing(t, s, changed))
				if i > 0 {
					changed[i-1].To = d.From
					count(checkSharing(t, s, changed))
				}
			}
		}
	})
	if accepted < 5000 || refused < 5000 {
		t.Error("accepted:", accepted, "refused:", refused)
	}
}

// randomSharing returns a sharing, if there is one; otherwise drifts that are none.
func randomSharing(r *rand.Rand, s scene) ([]api.Drift, bool) {
	// The last cells at which the claims can begin, so that the next ones still have one each.
	latest := make([]int, len(s.l))
	for i, next := len(s.l)-1, len(s.g.Cells); i >= 0; i-- {
		next = min(next-1, s.l[i].To)
		latest[i] = next
	}
	var drifts []api.Drift
	free, ok := 0, true
	for i, c := range s.l {
		from := max(free, c.From)
		ok = ok && from <= latest[i]
		from += r.Intn(max(1, min(3, latest[i]-from+1)))
		to := from + r.Intn(max(1, min(4, latest[i]-from+1)))
		drifts = append(drifts, cells(from, to))
		free = to + 1
	}
	return drifts, ok
}

// TestRefusedDrifts: Gains of drifts of the ground that are no sharing.
func TestRefusedDrifts(t *testing.T) {
	scenes(22, 500, small, func(s scene) {
		for _, d := range driftsOf(s.g) {
			drifts := make([]api.Drift, len(s.l)+1)
			for i := range drifts {
				drifts[i] = d
			}
			wantList(t, drifts, []api.Gain{}, api.ErrDrifts)(drift.Gains(s.g, s.l, drifts))
			if len(s.l) > 1 {
				wantList(t, drifts, []api.Gain{}, api.ErrDrifts)(drift.Gains(s.g, s.l, drifts[1:]))
			}
		}
	})
}

// checkFairest wants the fairest sharing, and what tells of it; or that nobody can share.
func checkFairest(t *testing.T, s scene) bool {
	t.Helper()
	best, ok := s.best()
	wantNarrow := verdict(ok, api.ErrNarrow)
	least, e := drift.Least(s.g, s.l)
	if least != best || e != wantNarrow {
		t.Fatalf("%+v: least %v, error %d, want %v, error %d", s, least, e, best, wantNarrow)
	}
	drifts, e := drift.Share(s.g, s.l)
	wall, f := drift.Wall(s.g, s.l)
	crowd, h := drift.Crowded(s.g, s.l)
	if e != wantNarrow || f != wantNarrow || h != verdict(!ok, api.ErrWide) {
		t.Fatalf("%+v: errors %d of Share, %d of Wall, %d of Crowded; a sharing: %t", s, e, f, h, ok)
	}
	if !ok {
		if !isZero(drifts) || !isZero(wall) {
			t.Fatalf("%+v: %v and %v beside an error", s, drifts, wall)
		}
		if !s.isCrowd(crowd) || drift.CheckCrowd(s.g, s.l, crowd) != api.OK {
			t.Fatalf("%+v: no crowd: %+v", s, crowd)
		}
		return false
	}
	if crowd != (api.Crowd{}) {
		t.Fatalf("%+v: %v beside an error", s, crowd)
	}
	if !checkSharing(t, s, drifts) || s.leastOf(drifts) != best {
		t.Fatalf("%+v: %v does not give %v", s, drifts, best)
	}
	if !s.isWall(wall, best) || drift.CheckWall(s.g, s.l, wall, best) != api.OK {
		t.Fatalf("%+v: no wall: %+v", s, wall)
	}
	return true
}

// TestFairest: P4.3 and P4.4: small grounds, those at the limits, and those between.
func TestFairest(t *testing.T) {
	for i, most := range []size{small, {2, 12, 6}, {6, 24, 4}, great} {
		shared, narrow := 0, 0
		scenes(int64(23+i), 2000, most, func(s scene) {
			if checkFairest(t, s) {
				shared++
			} else {
				narrow++
			}
		})
		if shared < 400 || narrow < 100 {
			t.Error(most, "shared:", shared, "narrow:", narrow)
		}
	}
}

// TestAllSharings: P4.4: no sharing gives more than Least, and some one just as much.
func TestAllSharings(t *testing.T) {
	scenes(27, 1000, small, func(s scene) {
		least, e := drift.Least(s.g, s.l)
		attained := false
		s.sharings(func(drifts []api.Drift) {
			gains, f := drift.Gains(s.g, s.l, drifts)
			if e != api.OK || f != api.OK {
				t.Fatalf("%+v: errors %d and %d, of the sharing %v", s, e, f, drifts)
			}
			more := true
			for _, a := range gains {
				sign, f := drift.Compare(a, least)
				more = more && sign > 0 && f == api.OK
			}
			attained = attained || s.leastOf(drifts) == least
			if more {
				t.Fatalf("%+v: least %v, but %v gives %v", s, least, drifts, gains)
			}
		})
		if attained != (e == api.OK) {
			t.Fatalf("%+v: least %v, error %d, attained: %t", s, least, e, attained)
		}
	})
}

// inRow returns a ground of so many cells of a worth, and so many claims of them all.
func inRow(claims, cells, worth, heads int) scene {
	s := scene{laid(1, cells), many(claims)}
	for i := range s.g.Cells {
		s.g.Cells[i].Worth = worth
	}
	for i := range s.l {
		s.l[i].To, s.l[i].Heads = cells-1, heads
	}
	return s
}

// TestEdges: the edges which the chapter names, one by one.
func TestEdges(t *testing.T) {
	for claims := 1; claims <= 12; claims++ {
		for cells := 1; cells <= 24; cells++ {
			for _, worth := range list(0, 1, 6, 10000) {
				for _, heads := range list(1, 4, 20) {
					s := inRow(claims, cells, worth, heads)
					if cells < claims {
						want(t, s, api.Gain{}, api.ErrNarrow)(drift.Least(s.g, s.l))
					} else {
						want(t, s, gainBy(cells/claims*worth, heads), api.OK)(drift.Least(s.g, s.l))
					}
					checkFairest(t, s)
				}
			}
			checkSteps(t, claims, cells)
		}
	}
}

// checkSteps checks claims that can reach one cell each, or cells of one other claim too, in the order of their turn or not.
func checkSteps(t *testing.T, claims, cells int) {
	t.Helper()
	for _, turned := range []bool{false, true} {
		for reach := range 4 {
			s := inRow(claims, cells, 5, 2)
			for i := range s.l {
				s.l[i].From = min(i, cells-1)
				s.l[i].To = min(i+reach, cells-1)
			}
			if turned {
				slices.Reverse(s.l)
			}
			shared := checkFairest(t, s)
			if !turned && shared != (claims <= cells) || turned && claims > 1+reach && shared {
				t.Errorf("%+v: shared: %t", s, shared)
			}
		}
	}
}

// TestOneCell: two claims of one cell, of which just one can get it.
func TestOneCell(t *testing.T) {
	for cell := range 24 {
		s := scene{laid(6, 24), many(3)}
		s.l[0].From, s.l[0].To = cell, cell
		s.l[2].From, s.l[2].To = cell, cell
		if checkFairest(t, s) {
			t.Errorf("%+v: shared", s)
		}
		s.l[2].To = min(23, cell+1)
		if checkFairest(t, s) {
			t.Errorf("%+v: shared", s)
		}
		s.l[2].To = min(23, cell+2)
		if checkFairest(t, s) != (cell < 22) {
			t.Errorf("%+v: shared", s)
		}
	}
}

// TestLeastOfGround: a claim that can reach just what is worth nothing, and one that is rich.
func TestLeastOfGround(t *testing.T) {
	s := inRow(2, 5, 10000, 1)
	s.g.Cells[0].Worth = 0
	s.l[0].To = 0
	want(t, s, api.Gain{Num: 0, Den: 1}, api.OK)(drift.Least(s.g, s.l))
	checkFairest(t, s)
	s.g.Cells[0].Worth = 1
	s.l[0].Heads = 20
	want(t, s, api.Gain{Num: 1, Den: 20}, api.OK)(drift.Least(s.g, s.l))
	checkFairest(t, s)
	s.g.Cells[0].Worth = 8
	want(t, s, api.Gain{Num: 2, Den: 5}, api.OK)(drift.Least(s.g, s.l))
	checkFairest(t, s)
}
