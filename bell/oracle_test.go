package bell_test

import (
	"fmt"
	"math/big"
	"regexp"
	"slices"
	"strconv"
	"strings"

	"leazing/api"
)

// The definitions of the chapter, each as directly as it can be, and not in the way of the package: what a book says is looked for in its strokes, from the last one on.

func between(n, lo, hi int) bool { return lo <= n && n <= hi }

// sharers returns the parishes of a border, rising.
func sharers(b api.Border) []int {
	var l []int
	for p, bits := 0, b.Parishes; bits > 0; p, bits = p+1, bits/2 {
		if bits%2 == 1 {
			l = append(l, p)
		}
	}
	return l
}

func isBorder(b api.Border) bool {
	return between(b.Field, 1, 99) && between(b.Parishes, 0, 63) && len(sharers(b)) >= 2
}

func isStroke(s api.Stroke) bool {
	right := map[int]bool{
		1: between(s.Other, 0, 5) && between(s.No, 1, 99999),
		2: s.Other == 0 && between(s.No, 1, 99999),
		3: between(s.Other, 0, 5) && between(s.No, 1, 99999),
		4: s.Other == 0 && between(s.No, 0, 1),
	}
	return right[s.Kind] && between(s.Field, 1, 99)
}

// borderOf returns the border of a field, if a watch has it.
func borderOf(w api.Watch, field int) (api.Border, bool) {
	i := slices.IndexFunc(w.Borders, func(b api.Border) bool { return b.Field == field })
	if i < 0 {
		return api.Border{}, false
	}
	return w.Borders[i], true
}

// others returns the other parishes of a field, rising.
func others(w api.Watch, field int) []int {
	b, _ := borderOf(w, field)
	return slices.DeleteFunc(sharers(b), func(p int) bool { return p == w.Me })
}

// last returns the index of the last stroke of a kind, a field and another parish; -1 if there is none.
func last(w api.Watch, kind, field, other int) int {
	for i := len(w.Strokes) - 1; i >= 0; i-- {
		s := w.Strokes[i]
		if s.Kind == kind && s.Field == field && s.Other == other {
			return i
		}
	}
	return -1
}

// number returns the number that the last such stroke has; 0 if there is none.
func number(w api.Watch, kind, field, other int) int {
	i := last(w, kind, field, other)
	if i < 0 {
		return 0
	}
	return w.Strokes[i].No
}

// holder returns which of two parishes a tally with a number is with.
func holder(a, b, no int) int {
	if no%2 == 0 {
		return min(a, b)
	}
	return max(a, b)
}

func holds(w api.Watch, field, other int) bool {
	return holder(w.Me, other, number(w, api.SkTally, field, other)) == w.Me
}

func isOpen(w api.Watch, field int) bool { return number(w, api.SkBell, field, 0) == 1 }

func wanted(w api.Watch, field int) bool { return number(w, api.SkWants, field, 0)%2 == 1 }

func clean(w api.Watch, field, other int) bool {
	after := last(w, api.SkTally, field, other) > last(w, api.SkWants, field, 0)
	return holds(w, field, other) && wanted(w, field) && after
}

func askedOf(w api.Watch, field int) []int {
	return slices.DeleteFunc(others(w, field), func(p int) bool { return number(w, api.SkAsked, field, p)%2 == 0 })
}

func missing(w api.Watch, field int) []int {
	return slices.DeleteFunc(others(w, field), func(p int) bool { return holds(w, field, p) })
}

// first returns a watch with the first strokes alone.
func first(w api.Watch, n int) api.Watch {
	w.Strokes = w.Strokes[:n]
	return w
}

// mayFollow tells whether a stroke may be written at the end of a valid book.
func mayFollow(w api.Watch, s api.Stroke) bool {
	_, mine := borderOf(w, s.Field)
	if !mine || !isStroke(s) {
		return false
	}
	if (s.Kind == api.SkTally || s.Kind == api.SkAsked) && !slices.Contains(others(w, s.Field), s.Other) {
		return false
	}
	if s.Kind != api.SkBell && s.No <= number(w, s.Kind, s.Field, s.Other) {
		return false
	}
	open := isOpen(w, s.Field)
	switch {
	case s.Kind == api.SkTally:
		return !open
	case s.Kind == api.SkBell && s.No == 1:
		return !open && len(missing(w, s.Field)) == 0
	case s.Kind == api.SkBell:
		return open
	}
	return true
}

func areBorders(me int, l []api.Border) bool {
	if len(l) > 4 {
		return false
	}
	for i, b := range l {
		if !isBorder(b) || !slices.Contains(sharers(b), me) || i > 0 && b.Field <= l[i-1].Field {
			return false
		}
	}
	return true
}

func isWatch(w api.Watch) bool {
	if !between(w.Me, 0, 5) || !areBorders(w.Me, w.Borders) || len(w.Strokes) > 120 || !between(w.Bound, 0, len(w.Strokes)) {
		return false
	}
	for i, s := range w.Strokes {
		if !mayFollow(first(w, i), s) {
			return false
		}
	}
	return true
}

func isPeal(p api.Peal) bool {
	if !between(p.From, 0, 5) || !between(p.To, 0, 5) || p.From == p.To || len(p.Told) > 4 {
		return false
	}
	for i, x := range p.Told {
		if !between(x.Field, 1, 99) || !between(x.No, 0, 99999) || !between(x.Wants, 0, 99999) || i > 0 && x.Field <= p.Told[i-1].Field {
			return false
		}
	}
	return true
}

// mineError returns the error of a watch, a field, and another parish (or one of its own, if there is none).
func mineError(w api.Watch, field int, other ...int) api.Errno {
	if !isWatch(w) {
		return api.ErrWatch
	}
	if _, mine := borderOf(w, field); !mine {
		return api.ErrMine
	}
	if len(other) > 0 && !slices.Contains(others(w, field), other[0]) {
		return api.ErrArg
	}
	return api.OK
}

// longer returns a watch with more strokes, if there is room for them.
func longer(w api.Watch, more ...api.Stroke) (api.Watch, api.Errno) {
	w.Strokes = slices.Concat(w.Strokes, more)
	if len(w.Strokes) > 120 || slices.ContainsFunc(more, func(s api.Stroke) bool { return s.No > 99999 }) {
		return api.Watch{}, api.ErrLong
	}
	return w, api.OK
}

func wished(w api.Watch, field int) (api.Watch, api.Errno) {
	if e := mineError(w, field); e != api.OK {
		return api.Watch{}, e
	}
	if isOpen(w, field) {
		return api.Watch{}, api.ErrRung
	}
	if wanted(w, field) {
		return w, api.OK
	}
	return longer(w, wants(field, number(w, api.SkWants, field, 0)+1))
}

func rung(w api.Watch, field int) (api.Watch, api.Errno) {
	if e := mineError(w, field); e != api.OK {
		return api.Watch{}, e
	}
	if isOpen(w, field) {
		return api.Watch{}, api.ErrRung
	}
	if len(missing(w, field)) > 0 {
		return api.Watch{}, api.ErrTally
	}
	if wanted(w, field) {
		return longer(w, bells(field, 1), wants(field, number(w, api.SkWants, field, 0)+1))
	}
	return longer(w, bells(field, 1))
}

func shut(w api.Watch, field int) (api.Watch, api.Errno) {
	if e := mineError(w, field); e != api.OK {
		return api.Watch{}, e
	}
	if !isOpen(w, field) {
		return api.Watch{}, api.ErrShut
	}
	return longer(w, bells(field, 0))
}

func served(w api.Watch) (api.Watch, api.Errno) {
	if !isWatch(w) {
		return api.Watch{}, api.ErrWatch
	}
	var given []api.Stroke
	for _, b := range w.Borders {
		for _, p := range askedOf(w, b.Field) {
			no := number(w, api.SkTally, b.Field, p)
			if !isOpen(w, b.Field) && holds(w, b.Field, p) && !clean(w, b.Field, p) && no < 99999 {
				given = append(given, tally(b.Field, p, no+1))
			}
		}
	}
	return longer(w, given...)
}

func boundWhole(w api.Watch) (api.Watch, api.Errno) {
	if !isWatch(w) {
		return api.Watch{}, api.ErrWatch
	}
	w.Bound = len(w.Strokes)
	return w, api.OK
}

// choice returns a number modulo another one.
func choice(a, n int) int {
	return int(new(big.Int).Mod(big.NewInt(int64(a)), big.NewInt(int64(n))).Int64())
}

func torn(w api.Watch, left int) (api.Watch, api.Errno) {
	if !isWatch(w) {
		return api.Watch{}, api.ErrWatch
	}
	return first(w, w.Bound+choice(left, 1+len(w.Strokes)-w.Bound)), api.OK
}

func recopied(w api.Watch) (api.Watch, api.Errno) {
	if !isWatch(w) {
		return api.Watch{}, api.ErrWatch
	}
	var all []api.Stroke
	put := func(s api.Stroke, has bool) {
		if has {
			all = append(all, s)
		}
	}
	for _, b := range w.Borders {
		f := b.Field
		for _, p := range others(w, f) {
			no := number(w, api.SkTally, f, p)
			put(tally(f, p, no), no != 0 && !clean(w, f, p))
		}
		no := number(w, api.SkWants, f, 0)
		put(wants(f, no), no != 0)
		for _, p := range others(w, f) {
			put(tally(f, p, number(w, api.SkTally, f, p)), clean(w, f, p))
		}
		for _, p := range others(w, f) {
			no := number(w, api.SkAsked, f, p)
			put(asked(f, p, no), no != 0)
		}
		put(bells(f, 1), isOpen(w, f))
	}
	return api.Watch{Me: w.Me, Borders: w.Borders, Strokes: all, Bound: len(all)}, api.OK
}

func tellDue(w api.Watch, to int) (api.Peal, api.Errno) {
	if !isWatch(w) {
		return api.Peal{}, api.ErrWatch
	}
	if !between(to, 0, 5) || to == w.Me {
		return api.Peal{}, api.ErrArg
	}
	p := api.Peal{From: w.Me, To: to}
	bound := first(w, w.Bound)
	for _, b := range w.Borders {
		if slices.Contains(sharers(b), to) {
			p.Told = append(p.Told, told(b.Field, number(bound, api.SkTally, b.Field, to), number(bound, api.SkWants, b.Field, 0)))
		}
	}
	return p, api.OK
}

// heard returns a watch that hears a peal, which takes one Told after the other.
func heard(w api.Watch, p api.Peal) (api.Watch, api.Errno) {
	if !isWatch(w) {
		return api.Watch{}, api.ErrWatch
	}
	if !isPeal(p) || p.To != w.Me {
		return api.Watch{}, api.ErrPeal
	}
	after := w
	for _, x := range p.Told {
		if !slices.Contains(others(w, x.Field), p.From) {
			continue
		}
		if x.Wants > number(after, api.SkAsked, x.Field, p.From) {
			after.Strokes = slices.Concat(after.Strokes, list(asked(x.Field, p.From, x.Wants)))
		}
		newer := x.No > number(after, api.SkTally, x.Field, p.From)
		if newer && holder(w.Me, p.From, x.No) == w.Me && !isOpen(after, x.Field) {
			after.Strokes = slices.Concat(after.Strokes, list(tally(x.Field, p.From, x.No)))
		}
	}
	return longer(w, after.Strokes[len(w.Strokes):]...)
}

func whoDue(l []api.Watch, field int) ([]int, api.Errno) {
	if len(l) > 6 {
		return nil, api.ErrCrew
	}
	for i, w := range l {
		if !isWatch(w) || i > 0 && w.Me <= l[i-1].Me {
			return nil, api.ErrCrew
		}
	}
	if !between(field, 1, 99) {
		return nil, api.ErrMine
	}
	var open []int
	for _, w := range l {
		if isOpen(w, field) {
			open = append(open, w.Me)
		}
	}
	return open, api.OK
}

func areStrokes(l []api.Stroke) bool {
	return len(l) <= 120 && !slices.ContainsFunc(l, func(s api.Stroke) bool { return !isStroke(s) })
}

func textOf(l []api.Stroke) string {
	var text strings.Builder
	for _, s := range l {
		switch s.Kind {
		case 1:
			fmt.Fprintf(&text, "tally %d %d %d\n", s.Field, s.Other, s.No)
		case 2:
			fmt.Fprintf(&text, "wants %d %d\n", s.Field, s.No)
		case 3:
			fmt.Fprintf(&text, "asked %d %d %d\n", s.Field, s.Other, s.No)
		default:
			fmt.Fprintf(&text, "bell %d %d\n", s.Field, s.No)
		}
	}
	return text.String()
}

const digits = " +(0|[1-9][0-9]{0,4})"

var (
	silent = regexp.MustCompile("^(#(?s:.*)| *)$")
	long   = regexp.MustCompile("^ *(tally|asked)" + digits + digits + digits + " *$")
	brief  = regexp.MustCompile("^ *(wants|bell)" + digits + digits + " *$")
)

// strokeOf returns the stroke that a line says, if it is of such a form.
func strokeOf(line string) (api.Stroke, bool) {
	kinds := map[string]int{"tally": 1, "wants": 2, "asked": 3, "bell": 4}
	number := func(word string) int {
		n, _ := strconv.Atoi(word)
		return n
	}
	if l := long.FindStringSubmatch(line); l != nil {
		return api.Stroke{Kind: kinds[l[1]], Field: number(l[2]), Other: number(l[3]), No: number(l[4])}, true
	}
	if l := brief.FindStringSubmatch(line); l != nil {
		return api.Stroke{Kind: kinds[l[1]], Field: number(l[2]), No: number(l[3])}, true
	}
	return api.Stroke{}, false
}

func parsed(text string) ([]api.Stroke, int, api.Errno) {
	if len(text) > 8000 {
		return nil, 0, api.ErrLong
	}
	var l []api.Stroke
	for i, line := range strings.Split(text, "\n") {
		if silent.MatchString(line) {
			continue
		}
		s, right := strokeOf(line)
		if !right {
			return nil, i + 1, api.ErrText
		}
		l = append(l, s)
	}
	if !areStrokes(l) {
		return nil, 0, api.ErrStroke
	}
	return l, 0, api.OK
}

// verdict returns OK if something is valid, and otherwise an error.
func verdict(valid bool, wrong api.Errno) api.Errno {
	if valid {
		return api.OK
	}
	return wrong
}

// none returns a result without error if something is valid, and otherwise a zero value.
func none[T any](valid bool, x T) T {
	var zero T
	if valid {
		return x
	}
	return zero
}
