package sack_test

import (
	"math/rand"
	"slices"
	"sort"
	"testing"

	"leazing/api"
	"leazing/sack"
)

// P6.1 to P6.3 at the limits: all ranges once more, found in another way.

// pipe lets corn through, from a place to another one.
type pipe struct{ from, to, least, most int }

// grid has pipes among places: what is outside is 0 and 1, and each family has one on each day. The first pipes are those of the passes; then each family's, day by day; and at last one from 0 to 1.
type grid struct {
	pipes    []pipe
	places   int
	families []int
	days     []int
	passes   int
}

const much = 1 << 30

// gridOf returns the grid of sacks of which all passes and hoards count. Passes that are apart begin or end at 1 instead of 0.
func gridOf(s api.Sacks, isApart func(p api.Pass) bool) grid {
	g := grid{families: named(s), days: daysOf(s), passes: len(s.Passes)}
	g.places = 2 + len(g.families)*len(g.days)
	for _, p := range s.Passes {
		out := 0
		if isApart(p) {
			out = 1
		}
		g.pipes = append(g.pipes, pipe{g.place(p.From, p.Day, out), g.place(p.To, p.Day, out), p.Gallons.Lo, p.Gallons.Hi})
	}
	for _, f := range g.families {
		for i, day := range g.days {
			next := 0
			if i+1 < len(g.days) {
				next = g.place(f, g.days[i+1], 0)
			}
			bounds, _ := seen(s, spot(f, day))
			g.pipes = append(g.pipes, pipe{g.place(f, day, 0), next, bounds.Lo, min(much, bounds.Hi)})
		}
	}
	g.pipes = append(g.pipes, pipe{0, 1, 0, much})
	return g
}

// place returns that of a family on one of the days, or what is outside.
func (g grid) place(family, day, out int) int {
	if family == 0 {
		return out
	}
	return 2 + sort.SearchInts(g.families, family)*len(g.days) + sort.SearchInts(g.days, day)
}

// held returns the index of the pipe of what a family has at the end of a day; -1 if it surely has nothing.
func (g grid) held(at api.Spot) int {
	i, ok := slices.BinarySearch(g.days, at.Day)
	if !ok {
		i--
	}
	if i < 0 || !slices.Contains(g.families, at.Family) {
		return -1
	}
	return g.passes + g.place(at.Family, g.days[i], 0) - 2
}

// canBe tells whether corn can run through all pipes within their bounds: what all least ones bring too much to some places runs, by the shortest ways, to those that lack it.
func (g grid) canBe() bool {
	w := water{heads: make([][]int, g.places+2)}
	source, sink := g.places, g.places+1
	excess := make([]int, g.places)
	for _, p := range g.pipes {
		if p.least > p.most {
			return false
		}
		w.lay(p.from, p.to, p.most-p.least)
		excess[p.to] += p.least
		excess[p.from] -= p.least
	}
	wanted := 0
	for place, n := range excess {
		w.lay(source, place, max(0, n))
		w.lay(place, sink, max(0, -n))
		wanted += max(0, n)
	}
	return w.run(source, sink) == wanted
}

// within tells whether all can be with as much as some bounds say in one pipe.
func (g grid) within(i, least, most int) bool {
	narrow := grid{pipes: slices.Clone(g.pipes), places: g.places}
	narrow.pipes[i].least, narrow.pipes[i].most = least, most
	return narrow.canBe()
}

// ends returns the least and the greatest amount that can be in a pipe, if anything can be at all.
func (g grid) ends(i int) api.Range {
	if i < 0 {
		return api.Range{}
	}
	least, most := g.pipes[i].least, min(700000, g.pipes[i].most)
	lo := least + sort.Search(most-least, func(n int) bool { return g.within(i, least, least+n) })
	hi := most - sort.Search(most-least, func(n int) bool { return g.within(i, most-n, most) })
	return span(lo, hi)
}

// water is pipes that are open both ways: the pipe 2 n runs from place to place, and 2 n + 1 back.
type water struct {
	heads    [][]int
	to, room []int
}

func (w *water) lay(from, to, room int) {
	w.heads[from] = append(w.heads[from], len(w.to))
	w.heads[to] = append(w.heads[to], len(w.to)+1)
	w.to = append(w.to, to, from)
	w.room = append(w.room, room, 0)
}

// run returns how much can run from a place to another one.
func (w *water) run(source, sink int) int {
	total := 0
	for {
		by := make([]int, len(w.heads)) // the pipe by which a place was reached, and 1
		queue := []int{source}
		for i := 0; i < len(queue) && by[sink] == 0; i++ {
			for _, pipe := range w.heads[queue[i]] {
				if to := w.to[pipe]; w.room[pipe] > 0 && by[to] == 0 && to != source {
					by[to] = pipe + 1
					queue = append(queue, to)
				}
			}
		}
		if by[sink] == 0 {
			return total
		}
		room := much
		for at := sink; at != source; at = w.to[(by[at]-1)^1] {
			room = min(room, w.room[by[at]-1])
		}
		for at := sink; at != source; at = w.to[(by[at]-1)^1] {
			w.room[by[at]-1] -= room
			w.room[(by[at]-1)^1] += room
		}
		total += room
	}
}

func nothing(p api.Pass) bool { return false }

// checkRival wants some ranges of sacks to be those that are found in the other way.
func checkRival(t *testing.T, r *rand.Rand, s api.Sacks, known, tries int) bool {
	t.Helper()
	k := knownOf(s, known)
	g := gridOf(k, nothing)
	sound := g.canBe()
	want(t, s, sound, api.OK)(sack.Sound(s, known))
	checkOwnFence(t, s, known, sound)
	if !sound {
		return false
	}
	for range tries {
		at := spot(1+r.Intn(99), r.Intn(4167))
		if n := len(g.families); n > 0 {
			at = spot(g.families[r.Intn(n)], g.days[r.Intn(len(g.days))]+r.Intn(2))
		}
		if at.Day <= 4166 {
			want(t, s, g.ends(g.held(at)), api.OK)(sack.Have(s, at, known))
		}
		if len(k.Passes) > 0 {
			i := r.Intn(len(k.Passes))
			want(t, s, g.ends(i), api.OK)(sack.Went(s, k.Passes[i].Source, known))
		}
		cert, day := 1+r.Intn(3), min(4166, at.Day)
		rests := gridOf(k, func(p api.Pass) bool { return p.Cert == cert })
		want(t, s, rests.ends(len(rests.pipes)-1), api.OK)(sack.Rests(s, cert, known))
		total := gridOf(k, func(p api.Pass) bool { return p.Day <= day })
		want(t, s, total.ends(len(total.pipes)-1), api.OK)(sack.Total(s, day, known))
	}
	return true
}

// TestRival: P6.1: in sacks up to the limits.
func TestRival(t *testing.T) {
	for i, c := range []struct {
		size
		n, tries, sounds int
	}{{small, 300, 3, 50}, {size{12, 10, 4, 6, 50, 20}, 100, 3, 20}, {dense, 60, 2, 10}, {great, 6, 1, 1}} {
		sounds, clashes := 0, 0
		sacks(int64(60+i), c.n, c.size, func(r *rand.Rand, s api.Sacks, known int) {
			if checkRival(t, r, s, known, c.tries) {
				sounds++
			} else {
				clashes++
			}
		})
		if sounds < c.sounds || clashes < c.sounds {
			t.Error(c.size, "sound:", sounds, "not:", clashes)
		}
	}
}

// full returns sacks of as many passes and hoards as can be, told of true gallons, among few families on few days.
func full(r *rand.Rand, most size) api.Sacks {
	for {
		s := random(r, most)
		for len(s.Passes) < 60 {
			s.Passes = append(s.Passes, passes(r, most)...)
		}
		s.Passes = s.Passes[:60]
		flow := truth(r, s.Passes, func(int) int { return most.gallons })
		for i := range s.Passes {
			s.Passes[i].Source, s.Passes[i].Gallons = i+1, about(r, flow[i], most)
		}
		s.Hoards = nil
		for len(s.Hoards) < 60 {
			s.Hoards = append(s.Hoards, hoards(r, s, most, func() []int { return flow })...)
		}
		s.Hoards = s.Hoards[:60]
		for i := range s.Hoards {
			s.Hoards[i].Source = 99999 - 60 + i
		}
		if s = always(s); sack.Check(s) == api.OK {
			return s
		}
	}
}

// TestFull: sacks with MaxPasses of each.
func TestFull(t *testing.T) {
	r := rand.New(rand.NewSource(70))
	for range 12 {
		s := full(r, dense)
		if !checkRival(t, r, s, 0, 2) {
			t.Fatalf("%+v is not sound", s)
		}
		i := r.Intn(60)
		h := &s.Hoards[i]
		have := must[api.Range](t, s)(sack.Have(s, spot(h.Family, h.Day), 0))
		h.Gallons = have
		checkRival(t, r, s, 0, 1)
		other := lessHoard(s, i)
		wide := must[api.Range](t, s)(sack.Have(other, spot(h.Family, h.Day), 0))
		for _, g := range []api.Range{span(wide.Hi, 10000), span(wide.Hi+1, 10000), span(0, wide.Lo), span(0, wide.Lo-1)} {
			if g.Lo <= g.Hi {
				s.Hoards[i].Gallons = g
				is := g.Lo <= wide.Hi && g.Hi >= wide.Lo
				if checkRival(t, r, s, 0, 0) != is {
					t.Errorf("%v of %v", g, wide)
				}
			}
		}
	}
}

// lessHoard returns sacks without one hoard.
func lessHoard(s api.Sacks, i int) api.Sacks {
	return api.Sacks{Passes: s.Passes, Hoards: slices.Delete(slices.Clone(s.Hoards), i, i+1)}
}
