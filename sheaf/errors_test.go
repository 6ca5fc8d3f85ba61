package sheaf_test

import (
	"math"
	"reflect"
	"testing"

	"leazing/api"
	"leazing/sheaf"
)

// call is a call of a function that takes a plot, with any hour, day and source.
type call struct {
	name              string
	takesHour, hasDay bool
	do                func(p api.Plot, hour, known, source int) (any, api.Errno)
}

// calls are those of all functions that take a plot.
func calls() []call {
	c := api.Carting{Sown: 110, Loads: []int{45, 35, 30}}
	return []call{
		{"Check", false, false, func(p api.Plot, hour, known, source int) (any, api.Errno) { return nil, sheaf.Check(p) }},
		{"Stands", false, false, func(p api.Plot, hour, known, source int) (any, api.Errno) {
			return two(sheaf.Stands(p, api.Stand{Source: source, Hour: hour, Known: known}))
		}},
		{"Without", false, false, func(p api.Plot, hour, known, source int) (any, api.Errno) { return two(sheaf.Without(p, source)) }},
		{"Dates", false, false, func(p api.Plot, hour, known, source int) (any, api.Errno) { return two(sheaf.Dates(p)) }},
		{"Sound", false, true, func(p api.Plot, hour, known, source int) (any, api.Errno) { return two(sheaf.Sound(p, known)) }},
		{"Clash", false, true, func(p api.Plot, hour, known, source int) (any, api.Errno) { return two(sheaf.Clash(p, known)) }},
		{"CheckClash", false, true, func(p api.Plot, hour, known, source int) (any, api.Errno) {
			return nil, sheaf.CheckClash(p, known, []int{source, hour})
		}},
		{"Stood", true, true, func(p api.Plot, hour, known, source int) (any, api.Errno) { return two(sheaf.Stood(p, hour, known)) }},
		{"Carted", false, true, func(p api.Plot, hour, known, source int) (any, api.Errno) {
			return two(sheaf.Carted(p, source, known))
		}},
		{"CheckCarting", false, true, func(p api.Plot, hour, known, source int) (any, api.Errno) {
			return nil, sheaf.CheckCarting(p, known, api.Carting{Sown: source, Loads: []int{hour, known, source}})
		}},
		{"Left", true, true, func(p api.Plot, hour, known, source int) (any, api.Errno) {
			return two(sheaf.Left(p, c, hour, known))
		}},
		{"Attain low", true, true, func(p api.Plot, hour, known, source int) (any, api.Errno) {
			return two(sheaf.Attain(p, hour, known, false))
		}},
		{"Attain high", true, true, func(p api.Plot, hour, known, source int) (any, api.Errno) {
			return two(sheaf.Attain(p, hour, known, true))
		}},
		{"Clear", true, true, func(p api.Plot, hour, known, source int) (any, api.Errno) { return two(sheaf.Clear(p, hour, known)) }},
		{"First", false, true, func(p api.Plot, hour, known, source int) (any, api.Errno) { return two(sheaf.First(p, known)) }},
		{"Shut", true, true, func(p api.Plot, hour, known, source int) (any, api.Errno) { return two(sheaf.Shut(p, hour, known)) }},
		{"Open", true, true, func(p api.Plot, hour, known, source int) (any, api.Errno) { return two(sheaf.Open(p, hour, known)) }},
		{"Truly", true, true, func(p api.Plot, hour, known, source int) (any, api.Errno) {
			return two(sheaf.Truly(p, c, hour, known))
		}},
		{"Moved", false, true, func(p api.Plot, hour, known, source int) (any, api.Errno) {
			return two(sheaf.Moved(p, source, known))
		}},
	}
}

func two[T any](x T, e api.Errno) (any, api.Errno) { return x, e }

func isZero(x any) bool {
	v := reflect.ValueOf(x)
	return !v.IsValid() || v.IsZero() || v.Kind() == reflect.Slice && v.Len() == 0
}

// TestFirstError: P1 and R1: ErrPlot before ErrHour before ErrDay before all others; R2: with an error, other results are zero values.
func TestFirstError(t *testing.T) {
	odd := []int{math.MinInt, -1, 0, 1, 3, 5, 58, 4166, 4167, 10001, 99999, 100000, math.MaxInt}
	wrong := example()
	wrong.Sown = api.Range{Lo: math.MaxInt, Hi: math.MinInt}
	for _, p := range []api.Plot{example(), {}, wrong, {Loads: []api.Load{{Source: math.MaxInt, Sheaves: api.Range{Lo: math.MinInt, Hi: math.MaxInt}}}}} {
		for _, c := range calls() {
			for _, hour := range odd {
				for _, known := range odd {
					for _, source := range odd {
						got, e := c.do(p, hour, known, source)
						if want := shared(p, c, hour, known); want != api.OK && e != want {
							t.Fatalf("%s, hour %d, known %d: error %d, want %d", c.name, hour, known, e, want)
						} else if want == api.OK && (e == api.ErrPlot || e == api.ErrHour || e == api.ErrDay) {
							t.Fatalf("%s, hour %d, known %d: error %d", c.name, hour, known, e)
						}
						if e != api.OK && !isZero(got) {
							t.Fatalf("%s: %v beside the error %d", c.name, got, e)
						}
					}
				}
			}
		}
	}
}

// shared returns the error that a call must return before all errors of its own.
func shared(p api.Plot, c call, hour, known int) api.Errno {
	switch {
	case sheaf.Check(p) != api.OK:
		return api.ErrPlot
	case c.takesHour && (hour < 0 || hour > api.MaxHour):
		return api.ErrHour
	case c.hasDay && (known < 0 || known > api.MaxDay):
		return api.ErrDay
	}
	return api.OK
}

// TestOwnErrors: the errors of functions that require a sound plot, a source, or true numbers.
func TestOwnErrors(t *testing.T) {
	p := example() // not sound from the day 9 on
	var none api.Carting
	for name, want := range map[string]api.Errno{
		"Stood": api.ErrFalse, "Carted": api.ErrFalse, "Attain low": api.ErrFalse, "Attain high": api.ErrFalse, "Clear": api.ErrFalse, "First": api.ErrFalse, "Open": api.ErrFalse,
		"Left": api.ErrCarting, "Truly": api.ErrCarting, "CheckCarting": api.ErrCarting,
		"Shut": api.OK, "Sound": api.OK, "Clash": api.OK, "Moved": api.OK, "CheckClash": api.ErrSound,
	} {
		for _, c := range calls() {
			if c.name != name {
				continue
			}
			if _, e := c.do(p, 66, 9, 3); e != want {
				t.Errorf("%s: error %d, want %d", name, e, want)
			}
		}
	}
	for _, source := range []int{0, 4, 11, 21, -5} {
		if _, e := sheaf.Carted(p, source, 9); e != api.ErrSource {
			t.Error("ErrSource is named before ErrFalse:", source, e)
		}
	}
	if _, e := sheaf.Carted(p, 3, 3); e != api.ErrSource {
		t.Error("a load that does not count:", e)
	}
	if _, e := sheaf.Moved(p, 4, 9); e != api.ErrNone {
		t.Error(e)
	}
	if _, e := sheaf.Moved(p, 4, -1); e != api.ErrDay {
		t.Error("ErrDay is named before ErrNone:", e)
	}
	if _, e := sheaf.Left(p, none, -1, 0); e != api.ErrHour {
		t.Error("ErrHour is named before ErrCarting:", e)
	}
	if _, e := sheaf.Truly(p, none, 0, -1); e != api.ErrDay {
		t.Error("ErrDay is named before ErrCarting:", e)
	}
	if _, e := sheaf.Clash(p, 8); e != api.ErrSound {
		t.Error(e)
	}
}

// TestMemory: R4: no argument is changed, and no result shares memory with one.
func TestMemory(t *testing.T) {
	for _, p := range append(randomPlots(50), example(), full(60, 60, 60)) {
		before := clone(p)
		for _, c := range calls() {
			for known := range lastDay + 1 {
				got, _ := c.do(p, 36, known, 15)
				spoil(got)
				if !equal(p, before) {
					t.Fatal(c.name, "changed the plot, or shares its memory")
				}
			}
		}
	}
	by := []int{2, 11, 14}
	c := api.Carting{Sown: 110, Loads: []int{45, 35}}
	sheaf.CheckClash(example(), 9, by)
	sheaf.CheckCarting(example(), 2, c)
	sheaf.Left(example(), c, 30, 2)
	sheaf.Truly(example(), c, 30, 2)
	if !reflect.DeepEqual(by, []int{2, 11, 14}) || !reflect.DeepEqual(c, api.Carting{Sown: 110, Loads: []int{45, 35}}) {
		t.Error(by, c)
	}
}

// spoil overwrites all lists of a result, up to their capacities.
func spoil(x any) {
	switch y := x.(type) {
	case []int:
		fill(y, -9)
	case api.Carting:
		fill(y.Loads, -9)
	case api.Plot:
		fill(y.Loads, api.Load{Source: -9})
		fill(y.Stands, api.Stand{Source: -9})
		fill(y.Spells, api.Spell{Source: -9})
	}
}

func fill[T any](l []T, x T) {
	l = l[:cap(l)]
	for i := range l {
		l[i] = x
	}
}

// TestNilAndEmpty: R3: a nil list and an empty one are the same value.
func TestNilAndEmpty(t *testing.T) {
	empty := api.Plot{Loads: []api.Load{}, Stands: []api.Stand{}, Spells: []api.Spell{}}
	for _, c := range calls() {
		a, e := c.do(api.Plot{}, 9, 0, 1)
		b, f := c.do(empty, 9, 0, 1)
		if p, ok := a.(api.Plot); ok {
			if !equal(p, b.(api.Plot)) || e != f {
				t.Error(c.name, a, b, e, f)
			}
		} else if e != f || isZero(a) != isZero(b) {
			t.Error(c.name, a, b, e, f)
		}
	}
	for _, c := range []api.Carting{{}, {Loads: []int{}}} {
		if e := sheaf.CheckCarting(api.Plot{}, 0, c); e != api.OK {
			t.Error(e)
		}
	}
	for _, by := range [][]int{nil, {}} {
		if e := sheaf.CheckClash(example(), 9, by); e != api.ErrSound {
			t.Error(e)
		}
	}
}
