package bell_test

import (
	"fmt"
	"slices"
	"testing"

	"leazing/api"
	"leazing/bell"
)

func list[T any](values ...T) []T { return values }

func border(field int, parishes ...int) api.Border {
	b := api.Border{Field: field}
	for _, p := range parishes {
		b.Parishes += 1 << p
	}
	return b
}

func tally(field, other, no int) api.Stroke {
	return api.Stroke{Kind: 1, Field: field, Other: other, No: no}
}

func wants(field, no int) api.Stroke { return api.Stroke{Kind: 2, Field: field, No: no} }

func asked(field, other, no int) api.Stroke {
	return api.Stroke{Kind: 3, Field: field, Other: other, No: no}
}

func bells(field, no int) api.Stroke { return api.Stroke{Kind: 4, Field: field, No: no} }

func told(field, no, wants int) api.Told { return api.Told{Field: field, No: no, Wants: wants} }

// shared are the borders of the chapter's examples: the field 7 of the parishes 0, 1 and 3.
func shared() []api.Border { return list(api.Border{Field: 7, Parishes: 11}) }

// watch returns that of a parish with the borders of the examples, and strokes none of which is bound.
func watch(me int, strokes ...api.Stroke) api.Watch {
	return api.Watch{Me: me, Borders: shared(), Strokes: strokes}
}

// short returns what a message says of something.
func short(what any) string {
	const most = 2500
	text := fmt.Sprintf("%+v", what)
	return text[:min(len(text), most)]
}

// same tells whether two results are the same; nil lists and empty ones are.
func same(a, b any) bool {
	switch x := a.(type) {
	case api.Watch:
		y := b.(api.Watch)
		return x.Me == y.Me && x.Bound == y.Bound && slices.Equal(x.Borders, y.Borders) && slices.Equal(x.Strokes, y.Strokes)
	case api.Peal:
		y := b.(api.Peal)
		return x.From == y.From && x.To == y.To && slices.Equal(x.Told, y.Told)
	case []int:
		return slices.Equal(x, b.([]int))
	case []api.Stroke:
		return slices.Equal(x, b.([]api.Stroke))
	}
	return a == b
}

// want wants a result and an error.
func want[T any](t *testing.T, what any, want T, due api.Errno) func(T, api.Errno) {
	return func(got T, e api.Errno) {
		t.Helper()
		if e != due || !same(got, want) {
			t.Errorf("%s: %s, error %d, want %s, error %d", short(what), short(got), e, short(want), due)
		}
	}
}

func wantError(t *testing.T, what any, want, got api.Errno) {
	t.Helper()
	if got != want {
		t.Errorf("%s: error %d, want %d", short(what), got, want)
	}
}

// must returns a result that has to be without an error.
func must[T any](t *testing.T, what any) func(T, api.Errno) T {
	return func(got T, e api.Errno) T {
		t.Helper()
		if e != api.OK {
			t.Fatalf("%s: error %d", short(what), e)
		}
		return got
	}
}

func newWatch(t *testing.T, me int) api.Watch {
	t.Helper()
	return must[api.Watch](t, me)(bell.New(me, shared()))
}

func TestExampleOfNew(t *testing.T) {
	want(t, "New", watch(0), api.OK)(bell.New(0, shared()))
	for _, c := range []struct {
		me, other int
		holds     bool
	}{{0, 1, true}, {0, 3, true}, {1, 0, false}, {1, 3, true}, {3, 0, false}, {3, 1, false}} {
		want(t, c, c.holds, api.OK)(bell.Holds(newWatch(t, c.me), 7, c.other))
	}
	want(t, "W0", []int{}, api.OK)(bell.Missing(newWatch(t, 0), 7))
	want(t, "W1", list(0), api.OK)(bell.Missing(newWatch(t, 1), 7))
	want(t, "W3", list(0, 1), api.OK)(bell.Missing(newWatch(t, 3), 7))
	want(t, "W0", false, api.OK)(bell.Clean(newWatch(t, 0), 7, 1))
	open := must[api.Watch](t, "Ring")(bell.Ring(newWatch(t, 0), 7))
	want(t, "Ring", true, api.OK)(bell.IsOpen(open, 7))
	want(t, "Ring", api.Watch{}, api.ErrTally)(bell.Ring(newWatch(t, 1), 7))
}

// TestExampleOfTallies: the parish 1 wants to open the field, gets the tally with 0, and opens it.
func TestExampleOfTallies(t *testing.T) {
	do := must[api.Watch](t, "the example")
	w0, w1, w3 := newWatch(t, 0), newWatch(t, 1), newWatch(t, 3)
	w1 = do(bell.Want(w1, 7))
	want(t, "Tell before Bind", api.Peal{From: 1, To: 0, Told: list(told(7, 0, 0))}, api.OK)(bell.Tell(w1, 0))
	w1 = do(bell.Bind(w1))
	peal := api.Peal{From: 1, To: 0, Told: list(told(7, 0, 1))}
	want(t, "Tell after Bind", peal, api.OK)(bell.Tell(w1, 0))

	w0 = do(bell.Hear(w0, peal))
	want(t, "Asked", list(1), api.OK)(bell.Asked(w0, 7))
	w0 = do(bell.Serve(w0))
	want(t, "Number", 1, api.OK)(bell.Number(w0, 7, 1))
	w0 = do(bell.Bind(w0))
	peal = api.Peal{From: 0, To: 1, Told: list(told(7, 1, 0))}
	want(t, "Tell", peal, api.OK)(bell.Tell(w0, 1))

	w1 = do(bell.Hear(w1, peal))
	want(t, "Missing", []int{}, api.OK)(bell.Missing(w1, 7))
	want(t, "Clean", true, api.OK)(bell.Clean(w1, 7, 0))
	want(t, "Print", "wants 7 1\ntally 7 0 1\n", api.OK)(bell.Print(w1.Strokes))
	w1 = do(bell.Ring(w1, 7))
	want(t, "IsOpen", true, api.OK)(bell.IsOpen(w1, 7))
	want(t, "Who", list(1), api.OK)(bell.Who(list(w0, w1, w3), 7))
	want(t, "Want", api.Watch{}, api.ErrRung)(bell.Want(w1, 7))

	w1 = do(bell.Shut(w1, 7))
	want(t, "Wanted", false, api.OK)(bell.Wanted(w1, 7))
	want(t, "Clean", false, api.OK)(bell.Clean(w1, 7, 0))
	w1 = do(bell.Recopy(w1))
	want(t, "Recopy", "tally 7 0 1\nwants 7 2\n", api.OK)(bell.Print(w1.Strokes))
}

func TestExampleOfTear(t *testing.T) {
	w1 := must[api.Watch](t, "Want")(bell.Want(newWatch(t, 1), 7))
	want(t, 0, watch(1), api.OK)(bell.Tear(w1, 0))
	left := must[api.Watch](t, 1)(bell.Tear(w1, 1))
	want(t, 1, "wants 7 1\n", api.OK)(bell.Print(left.Strokes))
}

// TestExampleOfDocument: the ninth one of DOC.md.
func TestExampleOfDocument(t *testing.T) {
	do := must[api.Watch](t, "the example")
	b := list(border(91, 0, 1, 2))
	w0, w1 := do(bell.New(0, b)), do(bell.New(1, b))
	w1 = do(bell.Bind(do(bell.Want(w1, 91))))
	w0 = do(bell.Hear(w0, must[api.Peal](t, "1 to 0")(bell.Tell(w1, 0))))
	w0 = do(bell.Bind(do(bell.Serve(w0))))
	w1 = do(bell.Hear(w1, must[api.Peal](t, "0 to 1")(bell.Tell(w0, 1))))
	w1 = do(bell.Ring(w1, 91))
	want(t, "Who", list(1), api.OK)(bell.Who(list(w0, w1, do(bell.New(2, b))), 91))
}
