package relief_test

import (
	"math/rand"
	"reflect"
	"slices"
	"testing"

	"leazing/api"
	"leazing/relief"
)

// P7.5 to P7.7: what one more entry changes, and what becomes known later.

// said is what is said of a family, as known on a day.
type said struct {
	bread, carried [14]api.Range
	wants          [14]int
	owed           int
	stands         api.Account
}

// saying returns what is said of a family; the weeks are those up to 10, and the last ones.
func saying(t *testing.T, of api.Relief, family, known int) said {
	t.Helper()
	var x said
	for i, week := range append(numbers(0, 10), 300, 594, 595) {
		x.bread[i] = must[api.Range](t, of)(relief.Bread(of, family, week, known))
		x.carried[i] = must[api.Range](t, of)(relief.Carried(of, family, week, known))
		x.wants[i] = must[int](t, of)(relief.Wants(of, family, week, known))
	}
	x.owed = must[int](t, of)(relief.Owed(of, family, known))
	x.stands = must[api.Account](t, of)(relief.Stands(of, family, known))
	return x
}

// isLess tells whether what is to be given in each week is no more, at both ends.
func isLess(a, b said) bool {
	for i := range a.bread {
		if a.bread[i].Lo > b.bread[i].Lo || a.bread[i].Hi > b.bread[i].Hi {
			return false
		}
	}
	return a.stands.Bread <= b.stands.Bread
}

// freeSource returns a source that no entry has: with some chance one before or between those of others.
func freeSource(r *rand.Rand, of api.Relief) (int, bool) {
	for range 100 {
		source := []int{1 + r.Intn(500), 1 + r.Intn(10), 99999}[r.Intn(3)]
		if same(of, without(of, source)) {
			return source, true
		}
	}
	return 0, false
}

// TestOneMoreFinding: P7.5.
func TestOneMoreFinding(t *testing.T) {
	more, still, others := 0, 0, 0
	check := func(most size) func(r *rand.Rand, of api.Relief) {
		return func(r *rand.Rand, of api.Relief) {
			source, free := freeSource(r, of)
			if !free || len(of.Findings) == 60 {
				return
			}
			f := grown(r, api.Relief{}, most, 2, source).Findings[0]
			with := must[api.Relief](t, of)(relief.Found(of, f))
			known := day(t, r, with)
			for _, family := range someFamilies(with) {
				before, after := saying(t, of, family, known), saying(t, with, family, known)
				switch {
				case family != f.Family && before != after:
					t.Fatalf("%+v: %+v moves the family %d", of, f, family)
				case family != f.Family:
					others++
				case !isLess(before, after) || after.owed < before.owed:
					t.Fatalf("%+v with %+v: %+v, and then %+v", of, f, before, after)
				case before == after:
					still++
				default:
					more++
				}
			}
			checkSecond(t, r, with, f)
		}
	}
	reliefs(40, 800, small, check(small))
	reliefs(41, 60, dense, check(dense))
	reliefs(42, 4, great, check(great))
	if min(more, still, others) < 100 {
		t.Error("more:", more, "the same:", still, "others:", others)
	}
}

// checkSecond wants a second finding of the same weeks to change nothing, as known on all days on which the first one counts.
func checkSecond(t *testing.T, r *rand.Rand, with api.Relief, f api.Finding) {
	t.Helper()
	source, free := freeSource(r, with)
	if !free || len(with.Findings) == 60 {
		return
	}
	second := f
	second.Source = source
	if r.Intn(2) == 0 && f.Known < 4165 {
		second.Known = f.Known + 1
		second.Until = 0
	}
	twice := must[api.Relief](t, with)(relief.Found(with, second))
	for _, known := range list(f.Known, f.Known+1, f.Until-1, day(t, r, twice)) {
		counts := f.Known <= known && (f.Until == 0 || known < f.Until)
		if known > 4166 || known < 0 || !counts && second.Known != f.Known {
			continue
		}
		for _, family := range someFamilies(with) {
			if once, then := saying(t, with, family, known), saying(t, twice, family, known); once != then {
				t.Fatalf("%+v: once more %+v, as known on %d: %+v, and then %+v", with, second, known, once, then)
			}
		}
		wantList(t, twice, list(), api.OK)(relief.Moved(twice, second.Source, known))
	}
}

// TestOneMoreCrop: P7.6, of crops.
func TestOneMoreCrop(t *testing.T) {
	oneMore(t, 43, 1, func(before, after said) bool { return isLess(after, before) })
}

// TestOneMoreNeed: P7.6, of needs.
func TestOneMoreNeed(t *testing.T) {
	oneMore(t, 46, 0, func(before, after said) bool { return isLess(before, after) })
}

// oneMore tries reliefs with one more entry of a kind, which counts, and wants what is said of its family before and after it to be right; and nothing else to be said of others.
func oneMore(t *testing.T, seed int64, kind int, right func(before, after said) bool) {
	differ := 0
	check := func(most size) func(r *rand.Rand, of api.Relief) {
		return func(r *rand.Rand, of api.Relief) {
			if max(len(of.Needs), len(of.Crops)) == 60 {
				of.Needs, of.Crops = of.Needs[:min(59, len(of.Needs))], of.Crops[:min(59, len(of.Crops))]
			}
			source, free := freeSource(r, of)
			if !free {
				return
			}
			one := grown(r, api.Relief{}, most, kind, source)
			with, family := joined(of, one), named(one)[0]
			known := day(t, r, with)
			counts := len(named(knownOf(one, known))) > 0
			for _, f := range someFamilies(with) {
				before, after := saying(t, of, f, known), saying(t, with, f, known)
				if before != after && (f != family || !counts) || !right(before, after) {
					t.Fatalf("%+v with %+v, as known on %d: %+v, and then %+v", of, with, known, before, after)
				}
				if before.bread != after.bread {
					differ++
				}
			}
		}
	}
	reliefs(seed, 1000, small, check(small))
	reliefs(seed+1, 100, dense, check(dense))
	reliefs(seed+2, 5, great, check(great))
	if differ < 100 {
		t.Error("differ:", differ)
	}
}

// joined returns a relief with the entries of two, those of each kind in their order.
func joined(a, b api.Relief) api.Relief {
	return sorted(api.Relief{
		Scales:   a.Scales,
		Needs:    slices.Concat(a.Needs, b.Needs),
		Crops:    slices.Concat(a.Crops, b.Crops),
		Findings: slices.Concat(a.Findings, b.Findings),
		Mades:    slices.Concat(a.Mades, b.Mades),
	})
}

// sorted returns a relief with the entries of each kind in their order.
func sorted(of api.Relief) api.Relief {
	of = without(of, 0)
	slices.SortFunc(of.Needs, func(a, b api.Need) int { return a.Source - b.Source })
	slices.SortFunc(of.Crops, func(a, b api.Crop) int { return a.Source - b.Source })
	slices.SortFunc(of.Findings, func(a, b api.Finding) int { return a.Source - b.Source })
	slices.SortFunc(of.Mades, func(a, b api.Made) int { return a.Source - b.Source })
	return of
}

// later returns a relief that differs only in what becomes known later than on a day.
func later(r *rand.Rand, of api.Relief, known int) api.Relief {
	other := without(of, 0)
	turn := func(from int, until *int) bool {
		if from <= known && (*until == 0 || *until > known) && known < 4166 {
			*until = min(4166, list(0, known+1, known+2, 4166)[r.Intn(4)])
		}
		return from > known && r.Intn(2) == 0
	}
	other.Needs, other.Crops, other.Findings, other.Mades = nil, nil, nil, nil
	for _, n := range of.Needs {
		if !turn(n.Known, &n.Until) {
			other.Needs = append(other.Needs, n)
		}
	}
	for _, c := range of.Crops {
		if !turn(c.Known, &c.Until) {
			other.Crops = append(other.Crops, c)
		}
	}
	for _, f := range of.Findings {
		if !turn(f.Known, &f.Until) {
			other.Findings = append(other.Findings, f)
		}
	}
	for _, m := range of.Mades {
		if !turn(m.Known, &m.Until) {
			other.Mades = append(other.Mades, m)
		}
	}
	if known < 4166 {
		other = news(r, other, known)
	}
	return other
}

// news returns a relief with one more entry of each kind of which there are not too many, which become known after a day.
func news(r *rand.Rand, of api.Relief, known int) api.Relief {
	from, week := min(4166, known+1+r.Intn(2)), r.Intn(5)
	if len(of.Needs) < 60 {
		of.Needs = append(of.Needs, api.Need{Source: 90001, Family: 1, Week: week, Heads: 20, Known: from})
	}
	if len(of.Crops) < 60 {
		of.Crops = append(of.Crops, api.Crop{Source: 90002, Family: 1, Week: week, Gallons: span(5, 9), Known: from})
	}
	if len(of.Findings) < 60 {
		of.Findings = append(of.Findings, api.Finding{Source: 90003, Family: 2, From: 0, To: 595, Known: from})
	}
	if len(of.Mades) < 60 {
		of.Mades = append(of.Mades, api.Made{Source: 90004, Family: 2, Gallons: 3, Known: from})
	}
	return sorted(of)
}

// results returns all that is said of a relief as known on a day, of families and sources that others give.
func results(t *testing.T, of api.Relief, families, sources []int, known int) []any {
	t.Helper()
	all := []any{must[[]int](t, of)(relief.Families(of, known))}
	for _, family := range families {
		x := saying(t, of, family, known)
		counted := must[[]int](t, of)(relief.Counted(of, family, known))
		gallons := taleOf(of, family, known).least()
		all = append(all, x, counted, gallons, relief.CheckCrops(of, family, known, gallons), relief.CheckCrops(of, family, known, nil))
		all = append(all, must[int](t, of)(relief.Truly(of, family, 3, known, gallons)))
		all = append(all, must[api.Account](t, of)(relief.Balance(of, list(known), family)))
	}
	for _, source := range sources {
		all = append(all, must[[]int](t, of)(relief.Moved(of, source, known)))
	}
	all = append(all, must[[]api.Posting](t, of)(relief.Posts(of, list(known))))
	return all
}

// allSources returns those that two reliefs have in common.
func allSources(a, b api.Relief) []int {
	of := func(x api.Relief) []int {
		var all []int
		for _, kind := range sourcesOf(&x) {
			for _, source := range kind {
				all = append(all, *source)
			}
		}
		return all
	}
	return slices.DeleteFunc(of(a), func(source int) bool { return !slices.Contains(of(b), source) })
}

// TestAsKnown: P7.7: what becomes known later changes nothing.
func TestAsKnown(t *testing.T) {
	differ := 0
	check := func(r *rand.Rand, of api.Relief) {
		known := day(t, r, of)
		other := later(r, of, known)
		wantError(t, other, api.OK, relief.Check(other))
		families, sources := rising(slices.Concat(named(of), named(other), list(50))), allSources(of, other)
		families, sources = families[:min(5, len(families))], sources[:min(20, len(sources))]
		before, after := results(t, of, families, sources, known), results(t, other, families, sources, known)
		if !reflect.DeepEqual(plain(before), plain(after)) {
			t.Fatalf("%+v, and %+v: as known on %d there is a difference: %v, and %v", of, other, known, before, after)
		}
		if known < 4160 && !reflect.DeepEqual(plain(results(t, of, families, sources, known+5)), plain(results(t, other, families, sources, known+5))) {
			differ++
		}
		checkPostsAsKnown(t, r, of, other, known)
	}
	reliefs(50, 500, small, check)
	reliefs(51, 100, dense, check)
	reliefs(52, 3, great, check)
	if differ < 100 {
		t.Error("differ later:", differ)
	}
}

// checkPostsAsKnown wants the postings of days up to one to be the same of reliefs that differ only later.
func checkPostsAsKnown(t *testing.T, r *rand.Rand, of, other api.Relief, known int) {
	t.Helper()
	days := rising(list(r.Intn(known+1), r.Intn(known+1), known))
	a, b := must[[]api.Posting](t, of)(relief.Posts(of, days)), must[[]api.Posting](t, other)(relief.Posts(other, days))
	if !slices.Equal(a, b) {
		t.Fatalf("%+v, and %+v: %v, and %v on %v", of, other, a, b, days)
	}
}

// plain returns values in which no list is nil.
func plain(values []any) []any {
	for i, x := range values {
		if l, is := x.([]int); is && len(l) == 0 {
			values[i] = []int{}
		}
		if l, is := x.([]api.Posting); is && len(l) == 0 {
			values[i] = []api.Posting{}
		}
	}
	return values
}

// TestOnlyMoved: P7.7: families that are not in Moved have the same account without the source; those that are have another one.
func TestOnlyMoved(t *testing.T) {
	moved, still := 0, 0
	check := func(r *rand.Rand, of api.Relief) {
		known := day(t, r, of)
		sources := allSources(of, of)
		if len(sources) == 0 {
			return
		}
		for range 5 {
			source := sources[r.Intn(len(sources))]
			less := without(of, source)
			families := must[[]int](t, of)(relief.Moved(of, source, known))
			for _, family := range someFamilies(of) {
				a := must[api.Account](t, of)(relief.Stands(of, family, known))
				b := must[api.Account](t, less)(relief.Stands(less, family, known))
				if (a != b) != slices.Contains(families, family) {
					t.Fatalf("%+v: %v without %d: %d has %v, and %v", of, families, source, family, a, b)
				}
				if a != b {
					moved++
				} else {
					still++
				}
			}
		}
	}
	reliefs(53, 300, small, check)
	reliefs(54, 100, dense, check)
	reliefs(55, 10, great, check)
	if min(moved, still) < 300 {
		t.Error("moved:", moved, "still:", still)
	}
}
