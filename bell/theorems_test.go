package bell_test

import (
	"math/rand"
	"slices"
	"testing"

	"leazing/api"
	"leazing/bell"
)

// P9.2 to P9.5: watches that stay valid, one bell, and everybody's turn in the end.

// answers are all that a watch says of its fields.
func answers(t *testing.T, w api.Watch) []any {
	t.Helper()
	var all []any
	for _, b := range w.Borders {
		f := b.Field
		all = append(all, must[bool](t, w)(bell.IsOpen(w, f)), must[bool](t, w)(bell.Wanted(w, f)))
		all = append(all, short(must[[]int](t, w)(bell.Asked(w, f))), short(must[[]int](t, w)(bell.Missing(w, f))))
		for _, p := range others(w, f) {
			all = append(all, must[int](t, w)(bell.Number(w, f, p)), must[bool](t, w)(bell.Holds(w, f, p)), must[bool](t, w)(bell.Clean(w, f, p)))
		}
	}
	return all
}

// TestValid: P9.2, of watches as they could be.
func TestValid(t *testing.T) {
	made := 0
	rounds(60, 3000, func(r *rand.Rand) {
		w := someWatch(r)
		field := anyField(r, w)
		do := map[string]func() (api.Watch, api.Errno){
			"New":    func() (api.Watch, api.Errno) { return bell.New(w.Me, w.Borders) },
			"Want":   func() (api.Watch, api.Errno) { return bell.Want(w, field) },
			"Ring":   func() (api.Watch, api.Errno) { return bell.Ring(w, field) },
			"Shut":   func() (api.Watch, api.Errno) { return bell.Shut(w, field) },
			"Serve":  func() (api.Watch, api.Errno) { return bell.Serve(w) },
			"Bind":   func() (api.Watch, api.Errno) { return bell.Bind(w) },
			"Tear":   func() (api.Watch, api.Errno) { return bell.Tear(w, r.Intn(200)-100) },
			"Recopy": func() (api.Watch, api.Errno) { return bell.Recopy(w) },
			"Hear":   func() (api.Watch, api.Errno) { return bell.Hear(w, anyPeal(r, w)) },
		}
		for name, make := range do {
			after, e := make()
			if e != api.OK {
				continue
			}
			made++
			wantError(t, []any{name, w, after}, api.OK, bell.Check(after))
			if !isWatch(after) || after.Me != w.Me || !slices.Equal(after.Borders, w.Borders) {
				t.Fatalf("%s of %s: %s", name, short(w), short(after))
			}
		}
	})
	if made < 12000 {
		t.Error("tried:", made)
	}
}

// TestRecopied: P9.2: by Recopy nothing is another answer, and Tell tells what it would tell after Bind.
func TestRecopied(t *testing.T) {
	shorter := 0
	rounds(61, 3000, func(r *rand.Rand) {
		w := someWatch(r)
		if r.Intn(3) == 0 {
			w = opened(w, anyField(r, w))
		}
		anew := must[api.Watch](t, w)(bell.Recopy(w))
		if len(anew.Strokes) < len(w.Strokes) {
			shorter++
		}
		if !slices.Equal(answers(t, w), answers(t, anew)) {
			t.Fatalf("%s: %s says something else", short(w), short(anew))
		}
		bound := must[api.Watch](t, w)(bell.Bind(w))
		for to := range 6 {
			if to != w.Me {
				want(t, anew, must[api.Peal](t, w)(bell.Tell(bound, to)), api.OK)(bell.Tell(anew, to))
			}
		}
		want(t, anew, anew, api.OK)(bell.Recopy(anew))
		want(t, anew, anew, api.OK)(bell.Tear(anew, 0))
		checkSameNext(t, r, w, anew)
	})
	if shorter < 1000 {
		t.Error("tried:", shorter)
	}
}

// checkSameNext wants that what is done to a book that was written anew is what would be done to the other one.
func checkSameNext(t *testing.T, r *rand.Rand, w, anew api.Watch) {
	t.Helper()
	field, peal := anyField(r, w), anyPeal(r, w)
	for _, next := range list(
		func(w api.Watch) (api.Watch, api.Errno) { return bell.Want(w, field) },
		func(w api.Watch) (api.Watch, api.Errno) { return bell.Ring(w, field) },
		func(w api.Watch) (api.Watch, api.Errno) { return bell.Shut(w, field) },
		func(w api.Watch) (api.Watch, api.Errno) { return bell.Serve(w) },
		func(w api.Watch) (api.Watch, api.Errno) { return bell.Hear(w, peal) },
	) {
		first, e := next(w)
		second, f := next(anew)
		if e == api.ErrLong {
			continue
		}
		wantError(t, []any{w, anew}, e, f)
		if !slices.Equal(first.Strokes[min(len(w.Strokes), len(first.Strokes)):], second.Strokes[min(len(anew.Strokes), len(second.Strokes)):]) {
			t.Fatalf("%s and %s: then %s and %s", short(w), short(anew), short(first), short(second))
		}
	}
}

// crew is the six parishes of a time, and all peals that were told, in this order.
type crew struct {
	all   []api.Watch
	peals []api.Peal
	count map[string]int
}

// sharedFields returns borders of which no parish has more than it can have.
func sharedFields(r *rand.Rand) []api.Border {
	if r.Intn(4) == 0 {
		return list(border(91, 0, 1, 2), border(92, 2, 3), border(93, 0, 3, 4, 5), border(94, 1, 5)) // those of chapter 10
	}
	var l []api.Border
	var many [6]int
	for _, f := range fields(r, oneOf(r, 1, 1, 1, 2, 4, 6)) {
		b := api.Border{Field: f, Parishes: someParishes(r, r.Intn(6))}
		if slices.ContainsFunc(sharers(b), func(p int) bool { return many[p] == 4 }) {
			continue
		}
		for _, p := range sharers(b) {
			many[p]++
		}
		l = append(l, b)
	}
	return l
}

func newCrew(t *testing.T, borders []api.Border) *crew {
	t.Helper()
	c := &crew{count: map[string]int{}}
	for me := range 6 {
		mine := slices.DeleteFunc(slices.Clone(borders), func(b api.Border) bool { return !slices.Contains(sharers(b), me) })
		c.all = append(c.all, must[api.Watch](t, me)(bell.New(me, mine)))
	}
	return c
}

// take takes a watch that has been changed, if there was no error; otherwise there is a reason.
func (c *crew) take(t *testing.T, name string, me int, reasons ...api.Errno) func(api.Watch, api.Errno) {
	return func(w api.Watch, e api.Errno) {
		t.Helper()
		if e == api.OK {
			wantError(t, []any{name, w}, api.OK, bell.Check(w))
			c.all[me] = w
			c.count[name]++
		} else if !slices.Contains(reasons, e) {
			t.Fatalf("%s of %s: error %d", name, short(c.all[me]), e)
		}
	}
}

// tell lets a parish tell something to another one; it can be heard at any time.
func (c *crew) tell(t *testing.T, me, to int) {
	t.Helper()
	c.peals = append(c.peals, must[api.Peal](t, c.all[me])(bell.Tell(c.all[me], to)))
}

// hear lets a peal be heard, and wants P9.5.
func (c *crew) hear(t *testing.T, r *rand.Rand, i int) {
	t.Helper()
	p := c.peals[i]
	before := len(c.all[p.To].Strokes)
	after, e := bell.Hear(c.all[p.To], p)
	c.take(t, "Hear", p.To, api.ErrLong)(after, e)
	if e != api.OK {
		return
	}
	if len(after.Strokes) > before {
		c.count["new"]++
	}
	want(t, []any{"again", p}, after, api.OK)(bell.Hear(after, p))
	for range 3 {
		older := c.told(p.From, p.To, r.Intn(i+1))
		want(t, []any{"an older one", older, p}, after, api.OK)(bell.Hear(after, older))
		if !same(older, p) {
			c.count["older"]++
		}
	}
}

// told returns the first peal of one parish to another one, from an index on.
func (c *crew) told(from, to, i int) api.Peal {
	for c.peals[i].From != from || c.peals[i].To != to {
		i++
	}
	return c.peals[i]
}

// step lets a parish do something, and returns the one that is changed by it.
func (c *crew) step(t *testing.T, r *rand.Rand, wishes int) int {
	t.Helper()
	me := r.Intn(6)
	w := c.all[me]
	field := anyField(r, w)
	switch n := r.Intn(40); {
	case n < wishes:
		c.take(t, "Want", me, api.ErrMine, api.ErrRung, api.ErrLong)(bell.Want(w, field))
	case n < 9:
		c.take(t, "Ring", me, api.ErrMine, api.ErrRung, api.ErrTally, api.ErrLong)(bell.Ring(w, field))
	case n < 14:
		c.take(t, "Shut", me, api.ErrMine, api.ErrShut, api.ErrLong)(bell.Shut(w, field))
	case n < 19:
		after, e := bell.Serve(w)
		if len(after.Strokes) > len(w.Strokes) {
			c.count["given"]++
		}
		c.take(t, "Serve", me, api.ErrLong)(after, e)
	case n < 23:
		c.take(t, "Bind", me)(bell.Bind(w))
	case n < 25:
		after, e := bell.Tear(w, r.Intn(200)-100)
		if len(after.Strokes) < len(w.Strokes) {
			c.count["torn"]++
		}
		c.take(t, "Tear", me)(after, e)
	case n < 27:
		c.take(t, "Recopy", me)(bell.Recopy(w))
	default:
		to := (me + 1 + r.Intn(5)) % 6
		c.tell(t, me, to)
		i := oneOf(r, len(c.peals)-1, len(c.peals)-1, r.Intn(len(c.peals))) // at once, or a late one, which may come again
		c.hear(t, r, i)
		return c.peals[i].To
	}
	return me
}

// check wants P9.3, after a parish has been changed.
func (c *crew) check(t *testing.T, me int) {
	t.Helper()
	for _, b := range c.all[me].Borders {
		open := must[[]int](t, c.all)(bell.Who(c.all, b.Field))
		if len(open) > 1 {
			t.Fatalf("%d is open for %v: %s", b.Field, open, short(c.all))
		}
		c.count["open"] += len(open)
		for _, other := range others(c.all[me], b.Field) {
			here := must[bool](t, c.all[me])(bell.Holds(c.all[me], b.Field, other))
			there := must[bool](t, c.all[other])(bell.Holds(c.all[other], b.Field, me))
			if here && there {
				t.Fatalf("%d and %d have their tally of %d: %s", me, other, b.Field, short(c.all))
			}
			if !here && !there {
				c.count["under way"]++
			}
		}
	}
}

// wish is one of a parish to open a field.
type wish struct{ me, field int }

func (c *crew) wishes(t *testing.T) []wish {
	t.Helper()
	var l []wish
	for me, w := range c.all {
		for _, b := range w.Borders {
			if must[bool](t, w)(bell.Wanted(w, b.Field)) {
				l = append(l, wish{me, b.Field})
			}
		}
	}
	return l
}

// round is one as P9.4 describes it; it returns the wishes that come true.
func (c *crew) round(t *testing.T, r *rand.Rand) []wish {
	t.Helper()
	var l []wish
	do := must[api.Watch](t, "a round")
	for _, me := range r.Perm(6) {
		c.all[me] = do(bell.Recopy(c.all[me]))
		for _, b := range c.all[me].Borders {
			if must[bool](t, me)(bell.IsOpen(c.all[me], b.Field)) {
				c.all[me] = do(bell.Shut(c.all[me], b.Field))
			}
		}
		for _, w := range c.wishes(t) {
			if w.me != me || len(must[[]int](t, w)(bell.Missing(c.all[me], w.field))) > 0 {
				continue
			}
			c.all[me] = do(bell.Ring(c.all[me], w.field))
			c.check(t, me)
			c.all[me] = do(bell.Shut(c.all[me], w.field))
			l = append(l, w)
		}
	}
	for _, me := range r.Perm(6) {
		c.all[me] = do(bell.Recopy(do(bell.Serve(c.all[me]))))
	}
	for _, me := range r.Perm(6) {
		for _, to := range r.Perm(6) {
			if to != me {
				c.all[to] = do(bell.Hear(c.all[to], must[api.Peal](t, me)(bell.Tell(c.all[me], to))))
			}
		}
	}
	return l
}

// checkEnd wants P9.4, and returns how many rounds it takes.
func (c *crew) checkEnd(t *testing.T, r *rand.Rand) int {
	t.Helper()
	end := &crew{all: slices.Clone(c.all), count: map[string]int{}}
	left := end.wishes(t)
	for n := range 25 {
		if len(left) == 0 {
			return n
		}
		come := end.round(t, r)
		left = slices.DeleteFunc(left, func(w wish) bool { return slices.Contains(come, w) })
		for me := range end.all {
			end.check(t, me)
		}
	}
	t.Fatalf("%+v are not opened in the end: %s", left, short(c.all))
	return 0
}

// TestOneBell: P9.3, P9.4 and P9.5, in many rounds: books tear, and peals are heard late, twice or never.
func TestOneBell(t *testing.T) {
	count, most := map[string]int{}, 0
	rounds(62, 150, func(r *rand.Rand) {
		c := newCrew(t, sharedFields(r))
		wishes := oneOf(r, 1, 3, 6)
		for i := range 400 {
			me := c.step(t, r, wishes)
			c.check(t, me)
			if i%100 == 99 {
				most = max(most, c.checkEnd(t, r))
			}
		}
		for name, n := range c.count {
			count[name] += n
		}
	})
	for name, least := range map[string]int{"Ring": 500, "Shut": 400, "given": 500, "new": 2000, "older": 3000, "torn": 300, "open": 10000, "under way": 10000} {
		if count[name] < least {
			t.Error("tried:", name, count)
		}
	}
	if most < 5 || most > 24 {
		t.Error("rounds:", most)
	}
}

// TestTurns: P9.4, of parishes who want to open many fields at once, again and again.
func TestTurns(t *testing.T) {
	all := list(0, 1, 2, 3, 4, 5)
	rounds(63, 12, func(r *rand.Rand) {
		borders := list(border(1, all...), border(2, all...), border(98, r.Perm(6)[:3]...), border(99, all...))
		c := newCrew(t, oneOf(r, borders, borders[:1], borders[2:]))
		for range 6 {
			for me := range c.all {
				for _, b := range c.all[me].Borders {
					if r.Intn(3) > 0 {
						c.all[me] = must[api.Watch](t, me)(bell.Want(c.all[me], b.Field))
					}
				}
			}
			c.checkEnd(t, r)
			for range 1 + r.Intn(10) { // after which some still want to
				c.round(t, r)
			}
		}
	})
}

// TestTwice: P9.5, of any peals that are heard by any watches.
func TestTwice(t *testing.T) {
	changed := 0
	rounds(64, 4000, func(r *rand.Rand) {
		w := someWatch(r)
		p := anyPeal(r, w)
		after, e := bell.Hear(w, p)
		if e != api.OK {
			return
		}
		if !same(w, after) {
			changed++
		}
		want(t, []any{w, p}, after, api.OK)(bell.Hear(after, p))
	})
	if changed < 1000 {
		t.Error("tried:", changed)
	}
}

// TestTornAfterTelling: what was told is not lost, whatever is torn out then; what was not bound is not told.
func TestTornAfterTelling(t *testing.T) {
	do, hears := must[api.Watch](t, "the rounds"), must[api.Peal](t, "the rounds")
	for bound := range 2 {
		w0, w1 := newWatch(t, 0), newWatch(t, 1)
		w1 = do(bell.Bind(do(bell.Want(w1, 7))))
		w0 = do(bell.Serve(do(bell.Hear(w0, hears(bell.Tell(w1, 0))))))
		want(t, "given", list(1), api.OK)(bell.Missing(w0, 7))
		if bound == 1 {
			w0 = do(bell.Bind(w0))
		}
		w1 = do(bell.Hear(w1, hears(bell.Tell(w0, 1))))
		w0 = do(bell.Tear(w0, 0))
		want(t, bound, none(bound == 1, list(1)), api.OK)(bell.Missing(w0, 7))
		want(t, bound, none(bound == 0, list(0)), api.OK)(bell.Missing(w1, 7))
		// The parish 1 loses what it heard, and hears it again.
		w1 = do(bell.Tear(w1, 0))
		want(t, bound, list(0), api.OK)(bell.Missing(w1, 7))
		w1 = do(bell.Hear(w1, hears(bell.Tell(w0, 1))))
		want(t, bound, bound == 1, api.OK)(bell.Clean(w1, 7, 0))
	}
}
