package bell_test

import (
	"math"
	"math/rand"
	"slices"

	"leazing/api"
)

// Random watches and peals, and what is made of them.

// rounds calls a test with many random sources, each with its own seed.
func rounds(seed int64, n int, try func(r *rand.Rand)) {
	for i := range n {
		try(rand.New(rand.NewSource(seed*1000000 + int64(i))))
	}
}

// oneOf returns one of some values.
func oneOf[T any](r *rand.Rand, values ...T) T { return values[r.Intn(len(values))] }

// upTo returns a number up to most: both ends often.
func upTo(r *rand.Rand, most int) int { return oneOf(r, 0, most, r.Intn(most+1), r.Intn(most+1)) }

// odd returns a number that is seldom right.
func odd(r *rand.Rand) int {
	return oneOf(r, math.MinInt, -1, 0, 1, 2, 3, 4, 5, 6, 7, 63, 64, 98, 99, 100, 120, 121, 99998, 99999, 100000, math.MaxInt)
}

// fields returns so many fields, rising: the first one and the last one of all often.
func fields(r *rand.Rand, n int) []int {
	var l []int
	for len(l) < n {
		if f := oneOf(r, 1, 99, 1+r.Intn(99)); !slices.Contains(l, f) {
			l = append(l, f)
		}
	}
	slices.Sort(l)
	return l
}

// someParishes returns some of them, among them one that is named, by bits.
func someParishes(r *rand.Rand, me int) int {
	return 1<<me | oneOf(r, 63, 1<<((me+1+r.Intn(5))%6), r.Intn(64)|1<<((me+1+r.Intn(5))%6))
}

// bordersOf returns random ones of a parish.
func bordersOf(r *rand.Rand, me int) []api.Border {
	var l []api.Border
	for _, f := range fields(r, oneOf(r, 0, 1, 1, 2, 3, 4)) {
		l = append(l, api.Border{Field: f, Parishes: someParishes(r, me)})
	}
	return l
}

// rises returns a number that is greater than another one, if it can be: mostly the next one, and seldom a great one.
func rises(r *rand.Rand, n int) int {
	next := min(n+1, 99999)
	if r.Intn(100) == 0 {
		return oneOf(r, next+r.Intn(100000-next), 99997, 99998, 99999)
	}
	return oneOf(r, next, next, next, min(n+1+r.Intn(4), 99999))
}

// anyStroke returns a stroke that often may be written at the end of a book.
func anyStroke(r *rand.Rand, w api.Watch) api.Stroke {
	f := oneOf(r, w.Borders...).Field
	other := oneOf(r, others(w, f)...)
	switch r.Intn(5) {
	case 0, 1:
		return tally(f, other, rises(r, number(w, api.SkTally, f, other)))
	case 2:
		return wants(f, rises(r, number(w, api.SkWants, f, 0)))
	case 3:
		return asked(f, other, rises(r, number(w, api.SkAsked, f, other)))
	}
	return bells(f, r.Intn(2))
}

// gathered returns a watch to which all tallies of a field come that can come.
func gathered(r *rand.Rand, w api.Watch, most int) api.Watch {
	f := oneOf(r, w.Borders...).Field
	for _, p := range missing(w, f) {
		s := tally(f, p, number(w, api.SkTally, f, p)+1)
		if len(w.Strokes) < most && mayFollow(w, s) {
			w.Strokes = append(w.Strokes, s)
		}
	}
	return w
}

// grown returns a watch with so many strokes in its book, if it has borders.
func grown(r *rand.Rand, w api.Watch, n int) api.Watch {
	w.Strokes = slices.Clone(w.Strokes)
	for tries := 0; len(w.Strokes) < n && len(w.Borders) > 0 && tries < 20*n; tries++ {
		if r.Intn(8) == 0 {
			w = gathered(r, w, n)
			continue
		}
		if s := anyStroke(r, w); mayFollow(w, s) {
			w.Strokes = append(w.Strokes, s)
		}
	}
	return w
}

// anyWatch returns a random one of a parish, some of whose strokes are bound.
func anyWatch(r *rand.Rand, me int, borders []api.Border) api.Watch {
	n := oneOf(r, 0, 1+r.Intn(3), r.Intn(12), r.Intn(30), r.Intn(30), r.Intn(60), 117+r.Intn(3), 119, 120)
	w := grown(r, api.Watch{Me: me, Borders: borders}, n)
	w.Bound = upTo(r, len(w.Strokes))
	return w
}

// someWatch returns a random one, whatever its parish is.
func someWatch(r *rand.Rand) api.Watch {
	me := r.Intn(6)
	return anyWatch(r, me, bordersOf(r, me))
}

// spoiltStroke returns a stroke one part of which is another one, often a wrong one.
func spoiltStroke(r *rand.Rand, s api.Stroke) api.Stroke {
	n := oneOf(r, odd(r), r.Intn(6))
	switch r.Intn(4) {
	case 0:
		s.Kind = n
	case 1:
		s.Field = n
	case 2:
		s.Other = n
	default:
		s.No = n
	}
	return s
}

// spoiltWatch returns a watch one part of which is another one, often a wrong one.
func spoiltWatch(r *rand.Rand, w api.Watch) api.Watch {
	w.Borders, w.Strokes = slices.Clone(w.Borders), slices.Clone(w.Strokes)
	n := len(w.Strokes)
	switch r.Intn(12) {
	case 0:
		w.Me = oneOf(r, odd(r), r.Intn(6))
	case 1:
		w.Bound = oneOf(r, odd(r), n+1)
	case 2:
		if len(w.Borders) > 0 {
			b := &w.Borders[r.Intn(len(w.Borders))]
			b.Field, b.Parishes = oneOf(r, b.Field, odd(r)), oneOf(r, b.Parishes, odd(r), r.Intn(64))
		}
	case 3:
		if len(w.Borders) > 0 {
			w.Borders = append(w.Borders, oneOf(r, w.Borders...))
		}
	case 4:
		w.Borders = slices.Delete(w.Borders, 0, min(1, len(w.Borders)))
	case 5:
		w.Strokes = slices.Repeat(w.Strokes, 2)
	}
	if n > 0 {
		i, j := r.Intn(n), r.Intn(n)
		switch r.Intn(4) {
		case 0:
			w.Strokes[i] = spoiltStroke(r, w.Strokes[i])
		case 1:
			w.Strokes[i], w.Strokes[j] = w.Strokes[j], w.Strokes[i]
		case 2:
			w.Strokes = slices.Delete(w.Strokes, i, i+1)
		}
	}
	return w
}

// mixedWatch returns a random one, which is seldom wrong.
func mixedWatch(r *rand.Rand) api.Watch {
	w := someWatch(r)
	if r.Intn(8) == 0 {
		return spoiltWatch(r, w)
	}
	return w
}

// anyField returns mostly one that is shared.
func anyField(r *rand.Rand, w api.Watch) int {
	if len(w.Borders) == 0 || r.Intn(8) == 0 {
		return oneOf(r, odd(r), 1+r.Intn(99))
	}
	return oneOf(r, w.Borders...).Field
}

// anyOther returns mostly another parish of a field.
func anyOther(r *rand.Rand, w api.Watch, field int) int {
	l := others(w, field)
	if len(l) == 0 || r.Intn(8) == 0 {
		return oneOf(r, odd(r), r.Intn(6), w.Me)
	}
	return oneOf(r, l...)
}

// anyPeal returns a random one to a watch: of its fields and of others, with numbers around those that are here.
func anyPeal(r *rand.Rand, w api.Watch) api.Peal {
	p := api.Peal{From: (w.Me + 1 + r.Intn(5)) % 6, To: w.Me}
	near := func(n int) int {
		return oneOf(r, n, n+1, n+1, n+2, n+3, max(n-1, 0), upTo(r, n), upTo(r, 99999), 99998, 99999)
	}
	for f := 1; f <= 99 && len(p.Told) < 4; f++ {
		_, mine := borderOf(w, f)
		if mine && r.Intn(8) > 0 || r.Intn(100) == 0 {
			no := near(number(w, api.SkTally, f, p.From))
			p.Told = append(p.Told, told(f, min(no, 99999), min(near(number(w, api.SkAsked, f, p.From)), 99999)))
		}
	}
	return p
}

// spoiltPeal returns a peal one part of which is another one, often a wrong one.
func spoiltPeal(r *rand.Rand, p api.Peal) api.Peal {
	p.Told = slices.Clone(p.Told)
	n := oneOf(r, odd(r), r.Intn(6))
	switch k := r.Intn(6); {
	case k == 0:
		p.From = n
	case k == 1:
		p.To = n
	case k == 2:
		p.Told = append(p.Told, p.Told...)
	case len(p.Told) > 0:
		x := &p.Told[r.Intn(len(p.Told))]
		switch k {
		case 3:
			x.Field = n
		case 4:
			x.No = n
		default:
			x.Wants = n
		}
	}
	return p
}

// anyStrokes returns random valid ones, of any fields.
func anyStrokes(r *rand.Rand) []api.Stroke {
	var l []api.Stroke
	for range oneOf(r, 0, 1, 2, r.Intn(20), 119, 120) {
		f, other, no := oneOf(r, 1, 99, 1+r.Intn(99)), r.Intn(6), oneOf(r, 1, 9, 10, 99998, 99999, 1+r.Intn(99999))
		l = append(l, oneOf(r, tally(f, other, no), wants(f, no), asked(f, other, no), bells(f, r.Intn(2))))
	}
	return l
}
