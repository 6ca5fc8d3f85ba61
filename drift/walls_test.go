package drift_test

import (
	"math"
	"math/rand"
	"slices"
	"testing"

	"leazing/api"
	"leazing/drift"
)

// P4.1, P4.3 and P4.4: walls and crowds, also those that the package would not return.

// checkingWalls returns the function that wants a wall to be accepted exactly if it shows that no sharing gives more than a gain.
func checkingWalls(t *testing.T, s scene) func(w api.Wall, than api.Gain) bool {
	best, ok := s.best()
	return func(w api.Wall, than api.Gain) bool {
		t.Helper()
		is := s.isWall(w, than)
		if e := drift.CheckWall(s.g, s.l, w, than); e != verdict(is, api.ErrWall) {
			t.Fatalf("%+v: error %d for the wall %+v of %v; it shows it: %t", s, e, w, than, is)
		}
		if is && ok && less(than, best) {
			t.Fatalf("%+v: the wall %+v is accepted for %v, but a sharing gives %v", s, w, than, best)
		}
		return is
	}
}

// someGains returns gains about the best one, and others.
func someGains(r *rand.Rand, s scene) []api.Gain {
	best, _ := s.best()
	best.Den = max(1, best.Den)
	less := api.Gain{Num: max(0, 4*best.Num-1), Den: 4 * best.Den}
	more := api.Gain{Num: 4*best.Num + 1, Den: 4 * best.Den}
	cell := s.g.Cells[r.Intn(len(s.g.Cells))]
	return []api.Gain{best, less, more, {Num: 0, Den: 1}, {Num: cell.Worth, Den: 1 + r.Intn(3)}, {Num: 1000000, Den: 1}}
}

// TestAllWalls: all walls of up to three numbers, of those about the cells and the edges, on small grounds; each for one of some gains.
func TestAllWalls(t *testing.T) {
	r := rand.New(rand.NewSource(30))
	accepted := 0
	scenes(30, 200, size{1, 3, 2}, func(s scene) {
		if len(s.l) > 2 || len(s.g.Cells) > 3 {
			return
		}
		check := checkingWalls(t, s)
		numbers := list(-1, 0, 1, 2, 3, 4, 5, 25, 26)
		starts := [][]int{nil}
		for range 4 {
			var longer [][]int
			for _, l := range starts {
				for _, n := range numbers {
					longer = append(longer, append(slices.Clone(l), n))
				}
			}
			for _, l := range starts {
				gains := someGains(r, s)
				for first := -1; first <= len(s.l); first++ {
					if check(api.Wall{First: first, Starts: l}, gains[r.Intn(len(gains))]) {
						accepted++
					}
				}
			}
			starts = longer
		}
	})
	if accepted < 1000 {
		t.Error("too few walls:", accepted)
	}
}

// nearWalls calls try with walls that differ a little from one.
func nearWalls(w api.Wall, try func(near api.Wall)) {
	for _, first := range list(w.First-1, w.First+1, math.MinInt, math.MaxInt, -w.First-1) {
		try(api.Wall{First: first, Starts: w.Starts})
	}
	for i := range w.Starts {
		for _, n := range list(w.Starts[i]-1, w.Starts[i]+1, 0, 25, 26, -1, math.MinInt, math.MaxInt) {
			near := api.Wall{First: w.First, Starts: slices.Clone(w.Starts)}
			near.Starts[i] = n
			try(near)
		}
		try(api.Wall{First: w.First, Starts: w.Starts[:i]})
		try(api.Wall{First: w.First, Starts: slices.Delete(slices.Clone(w.Starts), i, i+1)})
		try(api.Wall{First: w.First, Starts: slices.Insert(slices.Clone(w.Starts), i, w.Starts[i])})
		try(api.Wall{First: w.First + i, Starts: w.Starts[i:]})
	}
	for _, n := range list(25, 0, w.Starts[len(w.Starts)-1]+1) {
		try(api.Wall{First: w.First, Starts: append(slices.Clone(w.Starts), n)})
	}
}

// greedyWall returns numbers from a claim on, up to some claim, each one the greatest that a wall of a gain can have, or less.
func greedyWall(r *rand.Rand, s scene, than api.Gain) api.Wall {
	w := api.Wall{First: r.Intn(len(s.l))}
	w.Starts = list(s.l[w.First].From)
	for _, c := range s.l[w.First:] {
		from := max(w.Starts[len(w.Starts)-1], c.From)
		next := from + 1
		for next < 25 && worthOf(s.g, from, next-1)*than.Den <= c.Heads*than.Num && r.Intn(12) > 0 {
			next++
		}
		w.Starts = append(w.Starts, next)
		if next-1 > c.To && r.Intn(4) > 0 {
			break
		}
	}
	return w
}

// TestWalls: walls on all grounds, of all claims or of some, and what is nearly one.
func TestWalls(t *testing.T) {
	for i, most := range []size{small, {2, 12, 6}, great} {
		r := rand.New(rand.NewSource(int64(31 + i)))
		accepted, refused, later := 0, 0, 0
		scenes(int64(31+i), 1000, most, func(s scene) {
			check := checkingWalls(t, s)
			for _, than := range someGains(r, s) {
				for range 3 {
					w := greedyWall(r, s, than)
					is := check(w, than)
					if is && w.First > 0 {
						later++
					}
					nearWalls(w, func(near api.Wall) {
						if check(near, than) {
							accepted++
						} else {
							refused++
						}
					})
				}
			}
		})
		if accepted < 5000 || refused < 5000 || later < 100 {
			t.Error(most, "accepted:", accepted, "refused:", refused, "from a later claim on:", later)
		}
	}
}

// TestOwnWalls: what is nearly the wall that Wall returns, and that wall for other gains.
func TestOwnWalls(t *testing.T) {
	r := rand.New(rand.NewSource(34))
	scenes(34, 500, great, func(s scene) {
		w, e := drift.Wall(s.g, s.l)
		if e != api.OK {
			return
		}
		check := checkingWalls(t, s)
		best, _ := s.best()
		if !check(w, best) {
			t.Fatalf("%+v: no wall: %+v", s, w)
		}
		for _, than := range someGains(r, s) {
			check(w, than)
			nearWalls(w, func(near api.Wall) { check(near, than) })
		}
	})
}

// TestWallOfGround: the edges of a wall's numbers, and of what a claim gains before the next one begins.
func TestWallOfGround(t *testing.T) {
	s := scene{laid(1, 24), many(12)}
	for i := range s.g.Cells {
		s.g.Cells[i].Worth = 6
	}
	check := func(is bool, num, den, first int, starts ...int) {
		t.Helper()
		if checkingWalls(t, s)(api.Wall{First: first, Starts: starts}, api.Gain{Num: num, Den: den}) != is {
			t.Error(is, num, den, first, starts)
		}
	}
	check(true, 144, 1, 0, 0, 25)
	check(false, 143, 1, 0, 0, 25)
	check(false, 1000000, 1, 0, 0, 24)
	check(false, 1000000, 1, 0, 0, 26)
	check(false, 1000000, 1, 11, 0, 24, 25) // less claims than numbers
	check(true, 138, 1, 10, 0, 24, 25)      // the second one has no cell left
	check(false, 137, 1, 10, 0, 24, 25)     // 23 cells before it
	check(true, 1000000, 1, 10, 0, 1, 25)   // 23 cells for the second one
	check(true, 12, 1, 0, 0, 3, 6, 9, 12, 15, 18, 21, 24, 25)
	check(false, 11, 1, 0, 0, 3, 6, 9, 12, 15, 18, 21, 24, 25)
	check(false, 12, 1, 0, 0, 3, 6, 9, 12, 15, 18, 21, 25)
	check(false, 1000000, 1, 0, 0, 0, 25)
	check(false, 1000000, 1, 0, 0, 5, 5)
	check(false, 1000000, 1, 0, 0, 25, 26)
	s.l[1].From, s.l[1].Heads = 20, 2
	check(true, 12, 1, 0, 0, 1, 25) // it begins with the cell 20
	check(false, 11, 1, 0, 0, 1, 25)
	check(false, 12, 1, 0, 0, 1, 20)
	check(false, 12, 1, 1, 19, 25)
	check(true, 12, 1, 1, 20, 25)
	check(true, 25, 2, 1, 20, 25)
	check(false, 23, 2, 1, 20, 25)
	s.l[0].To = 3
	check(true, 24, 1, 0, 0, 5)
	check(false, 24, 1, 0, 0, 4)
	check(true, 24, 1, 0, 0, 5, 25) // the first one has no cell left already
	s.g.Cells = s.g.Cells[:4]
	s.l = s.l[:1]
	check(true, 24, 1, 0, 0, 25) // cells that the ground does not have are worth nothing
	check(false, 23, 1, 0, 0, 25)
	check(true, 24, 1, 0, 0, 5)
}

// checkCrowd wants a crowd to be accepted exactly if it is one.
func checkCrowd(t *testing.T, s scene, c api.Crowd) bool {
	t.Helper()
	is := s.isCrowd(c)
	if e := drift.CheckCrowd(s.g, s.l, c); e != verdict(is, api.ErrWide) {
		t.Fatalf("%+v: error %d for the crowd %+v; it is one: %t", s, e, c, is)
	}
	return is
}

// TestCrowds: P4.3: claims are accepted as a crowd only if there is no sharing, and some are if there is none.
func TestCrowds(t *testing.T) {
	for i, most := range []size{small, {2, 12, 6}, great} {
		apart := 0
		scenes(int64(35+i), 1500, most, func(s scene) {
			crowds := 0
			for first := -1; first <= len(s.l); first++ {
				for last := -1; last <= len(s.l); last++ {
					if !checkCrowd(t, s, api.Crowd{First: first, Last: last}) {
						continue
					}
					crowds++
					if s.l[last].To < s.l[first].From {
						apart++
					}
				}
			}
			for _, n := range list(math.MinInt, -1, 12, math.MaxInt) {
				checkCrowd(t, s, api.Crowd{First: n, Last: 0})
				checkCrowd(t, s, api.Crowd{First: 0, Last: n})
				checkCrowd(t, s, api.Crowd{First: n, Last: n})
			}
			if _, ok := s.best(); ok != (crowds == 0) {
				t.Fatalf("%+v: %d crowds, a sharing: %t", s, crowds, ok)
			}
		})
		if apart < 100 {
			t.Error(most, "too few crowds without a cell:", apart)
		}
	}
}

// TestCrowdOfGround: as many cells as claims, one less, and one more.
func TestCrowdOfGround(t *testing.T) {
	for claims := 2; claims <= 12; claims++ {
		for from := range 10 {
			for more := -1; more <= 1; more++ {
				s := scene{laid(3, 24), many(claims)}
				s.l[0].From, s.l[claims-1].To = from, from+claims+more-1
				is := checkCrowd(t, s, api.Crowd{First: 0, Last: claims - 1})
				if is != (more < 0) || checkFairest(t, s) == is {
					t.Errorf("%+v: a crowd: %t", s, is)
				}
			}
		}
	}
}
