package sack_test

import (
	"math/rand"
	"slices"
	"testing"

	"leazing/api"
	"leazing/sack"
)

// The definitions of the chapter, each as directly as it can be, and small sacks whose true gallons are all gone through.

// knownOf returns what of sacks counts, as known on a day.
func knownOf(s api.Sacks, day int) api.Sacks {
	counts := func(known, until int) bool { return known <= day && (until == 0 || until > day) }
	var k api.Sacks
	for _, p := range s.Passes {
		if counts(p.Known, p.Until) {
			k.Passes = append(k.Passes, p)
		}
	}
	for _, h := range s.Hoards {
		if counts(h.Known, h.Until) {
			k.Hoards = append(k.Hoards, h)
		}
	}
	return k
}

// hadBy returns what a family has at the end of a day, if all passes count.
func hadBy(s api.Sacks, flow []int, family, day int) int {
	had := 0
	for i, p := range s.Passes {
		if p.Day <= day && p.To == family {
			had += flow[i]
		}
		if p.Day <= day && p.From == family {
			had -= flow[i]
		}
	}
	return had
}

// named returns the families that sacks name, rising.
func named(s api.Sacks) []int {
	var all []int
	for _, p := range s.Passes {
		all = append(all, p.From, p.To)
	}
	for _, h := range s.Hoards {
		all = append(all, h.Family)
	}
	return slices.DeleteFunc(rising(all), func(f int) bool { return f == 0 })
}

// daysOf returns the days of passes and hoards, rising.
func daysOf(s api.Sacks) []int {
	var all []int
	for _, p := range s.Passes {
		all = append(all, p.Day)
	}
	for _, h := range s.Hoards {
		all = append(all, h.Day)
	}
	return rising(all)
}

func rising(l []int) []int {
	slices.Sort(l)
	return slices.Compact(l)
}

// isTrue tells whether numbers are true gallons, if all passes and hoards count.
func isTrue(s api.Sacks, flow []int) bool {
	if len(flow) != len(s.Passes) {
		return false
	}
	for i, p := range s.Passes {
		if flow[i] < p.Gallons.Lo || flow[i] > p.Gallons.Hi {
			return false
		}
	}
	for _, f := range named(s) {
		for _, day := range daysOf(s) {
			if hadBy(s, flow, f, day) < 0 {
				return false
			}
		}
	}
	for _, h := range s.Hoards {
		if had := hadBy(s, flow, h.Family, h.Day); had < h.Gallons.Lo || had > h.Gallons.Hi {
			return false
		}
	}
	return true
}

// flowsOf returns all true gallons, if all passes and hoards count.
func flowsOf(s api.Sacks) [][]int {
	var flows [][]int
	var choose func(flow []int)
	choose = func(flow []int) {
		if len(flow) == len(s.Passes) {
			if isTrue(s, flow) {
				flows = append(flows, slices.Clone(flow))
			}
			return
		}
		g := s.Passes[len(flow)].Gallons
		for n := g.Lo; n <= g.Hi; n++ {
			choose(append(flow, n))
		}
	}
	choose(nil)
	return flows
}

// truths is sacks of which all passes and hoards count, and all their true gallons.
type truths struct {
	api.Sacks
	flows [][]int
}

func truthsOf(s api.Sacks, known int) truths {
	k := knownOf(s, known)
	return truths{k, flowsOf(k)}
}

func (x truths) sound() bool { return len(x.flows) > 0 }

// ends returns the least and the greatest number of all true gallons, and OK; or ErrClash if there are none.
func (x truths) ends(of func(flow []int) int) (api.Range, api.Errno) {
	if !x.sound() {
		return api.Range{}, api.ErrClash
	}
	r := span(of(x.flows[0]), of(x.flows[0]))
	for _, flow := range x.flows {
		r = span(min(r.Lo, of(flow)), max(r.Hi, of(flow)))
	}
	return r, api.OK
}

func (x truths) have(at api.Spot) (api.Range, api.Errno) {
	return x.ends(func(flow []int) int { return hadBy(x.Sacks, flow, at.Family, at.Day) })
}

func (x truths) went(source int) (api.Range, api.Errno) {
	i := indexOf(x.Sacks, source)
	if i < 0 {
		return api.Range{}, api.ErrTold
	}
	return x.ends(func(flow []int) int { return flow[i] })
}

// restsBy returns the sum of what passed by the passes of a certificate.
func restsBy(s api.Sacks, flow []int, cert int) int {
	rests := 0
	for i, p := range s.Passes {
		if p.Cert == cert {
			rests += flow[i]
		}
	}
	return rests
}

// totalBy returns what all families have together.
func totalBy(s api.Sacks, flow []int, day int) int {
	total := 0
	for _, f := range named(s) {
		total += hadBy(s, flow, f, day)
	}
	return total
}

// indexOf returns the index of the pass with a source, or -1.
func indexOf(s api.Sacks, source int) int {
	return slices.IndexFunc(s.Passes, func(p api.Pass) bool { return p.Source == source })
}

// moved returns what Moved has to return, by what Have would for sacks and for those without the certificate.
func moved(s, less api.Sacks, have func(of api.Sacks, family int) (api.Range, api.Errno)) []int {
	var all []int
	for _, f := range named(s) {
		one, e := have(s, f)
		other, g := have(less, f)
		if one != other || e != g {
			all = append(all, f)
		}
	}
	return all
}

// size says how great random sacks are at most.
type size struct{ passes, hoards, families, days, gallons, width int }

var (
	tiny  = size{4, 3, 2, 2, 3, 2}
	small = size{5, 4, 3, 4, 6, 3}
	great = size{60, 60, 99, 4166, 10000, 10000}
	dense = size{60, 60, 6, 9, 10000, 3000}
)

// spread returns one of some numbers, in places from 0 to most: the first and the last one among them.
func spread(r *rand.Rand, of, most int) int {
	n := r.Intn(of + 1)
	if of == most || n < of {
		return n
	}
	return most
}

// random returns random sacks. Most are told of true gallons, so that they are sound if all of them counts; of these some are told a little wrongly. Of others each hoard alone can be true, but maybe not all together; and some are told of nothing.
func random(r *rand.Rand, most size) api.Sacks {
	kind := r.Intn(6)
	s := api.Sacks{Passes: passes(r, most)}
	flow := truth(r, s.Passes, func(int) int { return most.gallons })
	told := func() []int { return flow }
	switch kind {
	case 0:
		told = nil
	case 1:
		for i := range s.Passes {
			s.Passes[i].Gallons.Lo = 0
		}
		told = func() []int { return truth(r, s.Passes, func(i int) int { return s.Passes[i].Gallons.Hi }) }
	default:
		for i := range s.Passes {
			s.Passes[i].Gallons = about(r, flow[i], most)
		}
	}
	s.Hoards = hoards(r, s, most, told)
	if kind == 5 {
		mistake(r, s)
	}
	if r.Intn(3) > 0 {
		for i := range s.Passes {
			s.Passes[i].Known, s.Passes[i].Until = 0, 0
		}
	}
	return s
}

// passes returns random ones.
func passes(r *rand.Rand, most size) []api.Pass {
	var all []api.Pass
	source := 0
	for range r.Intn(most.passes + 1) {
		source += 1 + r.Intn(3)
		p := api.Pass{Source: source, From: spread(r, most.families, 99), Day: spread(r, most.days, 4166), Gallons: gallons(r, most)}
		if r.Intn(3) == 0 {
			p.From = 0
		}
		for p.To = p.From; p.To == p.From; {
			p.To = spread(r, most.families, 99)
		}
		if p.From == 0 && r.Intn(2) == 0 {
			p.Cert = 1 + r.Intn(3)
		}
		p.Known, p.Until = times(r)
		all = append(all, p)
	}
	return all
}

// gallons returns random ones: with some chance those of one number, or of all numbers.
func gallons(r *rand.Rand, most size) api.Range {
	return about(r, r.Intn(most.gallons+1), most)
}

// about returns gallons around a number.
func about(r *rand.Rand, n int, most size) api.Range {
	lo, hi := max(0, n-r.Intn(most.width+1)), min(10000, n+r.Intn(most.width+1))
	return []api.Range{span(n, n), span(lo, n), span(n, hi), span(lo, hi), span(max(0, n-most.width), n)}[r.Intn(5)]
}

func times(r *rand.Rand) (known, until int) {
	known = max(0, r.Intn(7)-3)
	if r.Intn(4) == 0 {
		until = known + 1 + r.Intn(2)
	}
	return known, until
}

// truth returns numbers for passes, by which no family gives more than it has, nor a pass more than a greatest number.
func truth(r *rand.Rand, passes []api.Pass, most func(i int) int) []int {
	order := r.Perm(len(passes))
	slices.SortStableFunc(order, func(a, b int) int { return passes[a].Day - passes[b].Day })
	flow := make([]int, len(passes))
	has := map[int]int{0: 1 << 30}
	for _, i := range order {
		p := passes[i]
		flow[i] = r.Intn(min(has[p.From], most(i)) + 1)
		has[p.From] -= flow[i]
		has[p.To] += flow[i]
	}
	return flow
}

// hoards returns random ones; those that are told of true gallons are around what the families have by them, if it is not too much.
func hoards(r *rand.Rand, s api.Sacks, most size, told func() []int) []api.Hoard {
	var all []api.Hoard
	source := 0
	for range r.Intn(most.hoards + 1) {
		source += 1 + r.Intn(3)
		h := api.Hoard{Source: source, Family: 1 + spread(r, most.families-1, 98), Day: spread(r, most.days, 4166), Gallons: gallons(r, most)}
		if n := len(s.Passes); n > 0 && r.Intn(2) == 0 {
			p := s.Passes[r.Intn(n)]
			h.Family, h.Day = max(p.From, p.To), p.Day
		}
		if n := len(all); n > 0 && r.Intn(8) == 0 {
			h.Family, h.Day = all[n-1].Family, all[n-1].Day
		}
		h.Known, h.Until = times(r)
		if told != nil {
			had := hadBy(s, told(), h.Family, h.Day)
			if had > 10000 {
				continue
			}
			h.Gallons = about(r, had, most)
		}
		all = append(all, h)
	}
	return all
}

// mistake moves the gallons of a pass, or of a hoard, a little.
func mistake(r *rand.Rand, s api.Sacks) {
	by := r.Intn(5) - 2
	move := func(g *api.Range) { *g = span(max(0, min(10000, g.Lo+by)), max(0, min(10000, g.Hi+by))) }
	if n := len(s.Passes); n > 0 && r.Intn(2) == 0 {
		move(&s.Passes[r.Intn(n)].Gallons)
	} else if n := len(s.Hoards); n > 0 {
		move(&s.Hoards[r.Intn(n)].Gallons)
	}
}

// sacks calls try with random sacks, and with days as known.
func sacks(seed int64, n int, most size, try func(r *rand.Rand, s api.Sacks, known int)) {
	r := rand.New(rand.NewSource(seed))
	for range n {
		try(r, random(r, most), r.Intn(5))
	}
}

// TestRandom: that random sacks are valid, and many of them sound, and many not.
func TestRandom(t *testing.T) {
	for i, most := range []size{tiny, small, dense, great} {
		sound, clash := 0, 0
		sacks(int64(i), 500, most, func(r *rand.Rand, s api.Sacks, known int) {
			wantError(t, s, api.OK, sack.Check(s))
			if is, _ := sack.Sound(s, known); is {
				sound++
			} else {
				clash++
			}
		})
		if sound < 50 || clash < 50 {
			t.Error(most, "sound:", sound, "not:", clash)
		}
	}
}

// spotsTo calls try with spots of all families that sacks name, and of others, on days about theirs.
func spotsTo(s api.Sacks, try func(at api.Spot)) {
	for _, f := range rising(append(named(s), 1, 50, 99)) {
		for _, day := range daysOf(s) {
			for _, d := range list(max(0, day-1), day, min(4166, day+1)) {
				try(spot(f, d))
			}
		}
		try(spot(f, 0))
		try(spot(f, 4166))
	}
}

// TestOracle: P6.1 and P6.2: all ranges of small sacks, by all their true gallons.
func TestOracle(t *testing.T) {
	sound, clash := 0, 0
	check := func(r *rand.Rand, s api.Sacks, known int) {
		x := truthsOf(s, known)
		if x.sound() {
			sound++
		} else {
			clash++
		}
		want(t, s, x.sound(), api.OK)(sack.Sound(s, known))
		spotsTo(s, func(at api.Spot) {
			r, e := x.have(at)
			want(t, s, r, e)(sack.Have(s, at, known))
		})
		for source := range 18 {
			r, e := x.went(source)
			want(t, s, r, e)(sack.Went(s, source, known))
		}
		for cert := 1; cert <= 4; cert++ {
			r, e := x.ends(func(flow []int) int { return restsBy(x.Sacks, flow, cert) })
			want(t, s, r, e)(sack.Rests(s, cert, known))
		}
		for _, day := range list(0, 1, 2, 3, 4, 5, 4165, 4166) {
			r, e := x.ends(func(flow []int) int { return totalBy(x.Sacks, flow, day) })
			want(t, s, r, e)(sack.Total(s, day, known))
		}
	}
	sacks(10, 1500, tiny, check)
	sacks(11, 1500, small, check)
	if sound < 500 || clash < 500 {
		t.Error("sound:", sound, "not:", clash)
	}
}

// TestMoved: P6.1: the families that a certificate moves, in small sacks.
func TestMoved(t *testing.T) {
	none, some, unsound, all := 0, 0, 0, 0
	check := func(r *rand.Rand, s api.Sacks, known int) {
		for cert := 1; cert <= 4; cert++ {
			less, e := sack.Without(s, cert)
			if e != api.OK {
				wantList(t, s, nil, api.ErrNone)(sack.Moved(s, cert, 0, known))
				continue
			}
			with, without := truthsOf(s, known), truthsOf(less, known)
			for _, day := range list(0, 1, 2, 4, 4166) {
				wanted := moved(s, less, func(of api.Sacks, f int) (api.Range, api.Errno) {
					if same(of, s) {
						return with.have(spot(f, day))
					}
					return without.have(spot(f, day))
				})
				wantList(t, s, wanted, api.OK)(sack.Moved(s, cert, day, known))
				switch {
				case with.sound() != without.sound():
					all++
				case !with.sound():
					unsound++
				case len(wanted) > 0:
					some++
				default:
					none++
				}
			}
		}
	}
	sacks(12, 1500, tiny, check)
	sacks(13, 1500, small, check)
	if min(none, some, unsound, all) < 200 {
		t.Error("none:", none, "some:", some, "unsound:", unsound, "all:", all)
	}
}
