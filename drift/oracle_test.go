package drift_test

import (
	"math/rand"
	"slices"
	"testing"

	"leazing/api"
)

// This file tells, straight from the chapter's definitions, what sharings, walls and crowds are, tries all sharings of small grounds, and lays random grounds.

// scene is a ground, and claims on it.
type scene struct {
	g api.Ground
	l []api.Claim
}

// worthOf returns what the cells from one to another one are worth, as far as the ground has them.
func worthOf(g api.Ground, from, to int) int {
	worth := 0
	for i, c := range g.Cells {
		if from <= i && i <= to {
			worth += c.Worth
		}
	}
	return worth
}

// gainBy returns a worth by the head: the least Den by which it is a fraction.
func gainBy(worth, heads int) api.Gain {
	den := 1
	for worth*den%heads != 0 {
		den++
	}
	return api.Gain{Num: worth * den / heads, Den: den}
}

// less tells whether one gain is less than another one.
func less(a, b api.Gain) bool { return a.Num*b.Den < b.Num*a.Den }

func (s scene) gain(i int, d api.Drift) api.Gain {
	return gainBy(worthOf(s.g, d.From, d.To), s.l[i].Heads)
}

func (s scene) leastOf(drifts []api.Drift) api.Gain {
	least := s.gain(0, drifts[0])
	for i, d := range drifts {
		if a := s.gain(i, d); less(a, least) {
			least = a
		}
	}
	return least
}

func (s scene) isSharing(drifts []api.Drift) bool {
	if len(drifts) != len(s.l) {
		return false
	}
	for i, d := range drifts {
		if d.From < 0 || d.To < d.From || d.To >= len(s.g.Cells) || d.From < s.l[i].From || d.To > s.l[i].To {
			return false
		}
		if i > 0 && d.From <= drifts[i-1].To {
			return false
		}
	}
	return true
}

// isCrowd counts the cells that the claims of a crowd have.
func (s scene) isCrowd(c api.Crowd) bool {
	if c.First < 0 || c.Last >= len(s.l) || c.First > c.Last {
		return false
	}
	count := 0
	for cell := s.l[c.First].From; cell <= s.l[c.Last].To; cell++ {
		count++
	}
	return count < c.Last-c.First+1
}

func (s scene) isWall(w api.Wall, than api.Gain) bool {
	if w.First < 0 || w.First >= len(s.l) || len(w.Starts) < 2 {
		return false
	}
	for _, start := range w.Starts {
		if start < 0 || start > 25 {
			return false
		}
	}
	if w.Starts[0] != s.l[w.First].From {
		return false
	}
	last := len(w.Starts) - 2
	for i := 0; i <= last; i++ {
		if w.First+i >= len(s.l) {
			return false
		}
		c, from, next := s.l[w.First+i], w.Starts[i], w.Starts[i+1]
		if c.From > from {
			from = c.From
		}
		if next <= from || worthOf(s.g, from, next-2)*than.Den > c.Heads*than.Num {
			return false
		}
	}
	return w.Starts[last+1]-1 > s.l[w.First+last].To
}

// sharings calls try with all sharings.
func (s scene) sharings(try func(drifts []api.Drift)) {
	var add func(drifts []api.Drift)
	add = func(drifts []api.Drift) {
		i := len(drifts)
		if i == len(s.l) {
			try(drifts)
			return
		}
		first := s.l[i].From
		if i > 0 {
			first = max(first, drifts[i-1].To+1)
		}
		for from := first; from <= s.l[i].To; from++ {
			for to := from; to <= s.l[i].To; to++ {
				add(append(slices.Clone(drifts), cells(from, to)))
			}
		}
	}
	add(nil)
}

// best returns the greatest least gain of all sharings; false if there is none. It tries, from the last claim back, all drifts from each cell on, so that it serves for grounds at the limits too.
func (s scene) best() (api.Gain, bool) {
	n := len(s.g.Cells)
	known := make([]api.Gain, n+2) // by the first cell that is left; Den 0 if there is no sharing
	for from := range known {
		known[from] = api.Gain{Num: 1000000, Den: 1}
	}
	for i := len(s.l) - 1; i >= 0; i-- {
		next := make([]api.Gain, n+2)
		for from := n - 1; from >= 0; from-- {
			next[from] = next[from+1]
			if from < s.l[i].From {
				continue
			}
			for to := from; to <= s.l[i].To; to++ {
				a := s.gain(i, cells(from, to))
				if known[to+1].Den > 0 && less(known[to+1], a) {
					a = known[to+1]
				}
				if known[to+1].Den > 0 && (next[from].Den == 0 || less(next[from], a)) {
					next[from] = a
				}
			}
		}
		known = next
	}
	return known[0], known[0].Den > 0
}

// without returns the scene without a claim.
func (s scene) without(i int) scene {
	return scene{s.g, slices.Delete(slices.Clone(s.l), i, i+1)}
}

func (s scene) clone() scene {
	return scene{api.Ground{Chains: slices.Clone(s.g.Chains), Cells: slices.Clone(s.g.Cells)}, slices.Clone(s.l)}
}

// size says how many chains, cells and claims a scene has.
type size struct{ chains, cells, claims int }

// randomScene lays a ground of a size, and claims on it: of one cell, of all cells, between random ones, or one after the other.
func randomScene(r *rand.Rand, z size) scene {
	var s scene
	for _, id := range rising(r, z.chains) {
		lo := 1 + r.Intn(1000)
		if r.Intn(2) == 0 {
			lo = 900 + r.Intn(101) // of about one length, so that what is longer is often not sure
		}
		s.g.Chains = append(s.g.Chains, api.Chain{Id: id, Link: api.Range{Lo: lo, Hi: lo + r.Intn(1001-lo)}})
	}
	worths, kind := []int{0, 1, 10, 10000}[r.Intn(4)], r.Intn(5)
	for range z.cells {
		c := api.Cell{Chain: s.g.Chains[r.Intn(z.chains)].Id, Links: 1 + r.Intn([]int{3, 1000}[r.Intn(2)]), Worth: r.Intn(worths + 1)}
		if r.Intn(3) == 0 {
			c.Worth = 0
		}
		s.g.Cells = append(s.g.Cells, c)
	}
	families := r.Perm(99)
	for i := range z.claims {
		c := api.Claim{Family: families[i] + 1, Heads: 1 + r.Intn([]int{3, 20}[r.Intn(2)])}
		c.From, c.To = randomReach(r, z, i, kind)
		s.l = append(s.l, c)
	}
	return s
}

// randomReach returns the first and the last cell that the claim with an index can reach.
func randomReach(r *rand.Rand, z size, i, kind int) (int, int) {
	last := z.cells - 1
	if kind == 0 {
		return 0, last
	}
	if kind == 1 || r.Intn(8) == 0 {
		cell := r.Intn(z.cells)
		return cell, cell
	}
	from, to := r.Intn(z.cells), r.Intn(z.cells)
	if kind > 2 { // about in the order of their turn, so that there often is a sharing
		from, to = i*z.cells/z.claims-r.Intn(3), i*z.cells/z.claims+r.Intn(1+z.cells/2)
	}
	from, to = max(0, from), min(last, to)
	return min(from, to), max(from, to)
}

// rising returns so many numbers from 1 to 99, rising.
func rising(r *rand.Rand, n int) []int {
	ids := r.Perm(99)[:n]
	slices.Sort(ids)
	for i := range ids {
		ids[i]++
	}
	return ids
}

// scenes calls try with n random scenes of at most a size: always the same ones. The first ones are at the edges.
func scenes(seed int64, n int, most size, try func(s scene)) {
	r := rand.New(rand.NewSource(seed))
	edges := []size{{1, 1, 1}, {most.chains, most.cells, most.claims}, {1, most.cells, 1}, {most.chains, 1, 1}, {1, 1, most.claims}, {1, most.claims, most.claims}, {1, most.claims - 1, most.claims}, {2, 3, 4}, {1, 2, 2}}
	for i := range n {
		z := size{1 + r.Intn(most.chains), 1 + r.Intn(most.cells), 1 + r.Intn(most.claims)}
		if i < 10*len(edges) {
			z = edges[i%len(edges)]
		}
		try(randomScene(r, z))
	}
}

// small scenes have few enough sharings that all are tried; great ones are at the limits.
var (
	small = size{6, 7, 4}
	great = size{6, 24, 12}
)

// TestOracle: the fairest sharing is found among all of them, or there is none.
func TestOracle(t *testing.T) {
	shared := 0
	scenes(1, 1000, small, func(s scene) {
		var most api.Gain
		s.sharings(func(drifts []api.Drift) {
			if !s.isSharing(drifts) {
				t.Fatalf("%+v: no sharing: %v", s, drifts)
			}
			if a := s.leastOf(drifts); most.Den == 0 || less(most, a) {
				most = a
			}
		})
		best, ok := s.best()
		if best != most || ok != (most.Den > 0) {
			t.Fatalf("%+v: the best is %v, of all %v", s, best, most)
		}
		if ok {
			shared++
		}
	})
	if shared < 400 || shared > 900 {
		t.Error("sharings of", shared)
	}
}
