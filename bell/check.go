package bell

import (
	"cmp"
	"math/bits"

	"leazing/api"
)

const allParishes = 1<<api.MaxParishes - 1

func within(n, lo, hi int) bool { return lo <= n && n <= hi }

func isParish(n int) bool { return within(n, 0, api.MaxParishes-1) }

func isField(n int) bool { return within(n, 1, api.MaxField) }

func isBorder(b api.Border) bool {
	return isField(b.Field) && within(b.Parishes, 0, allParishes) && bits.OnesCount(uint(b.Parishes)) >= 2
}

// shares reports whether a number is one of the parishes that share a field.
func shares(b api.Border, parish int) bool { return isParish(parish) && b.Parishes>>parish&1 == 1 }

// areBorders reports whether a parish can have these borders.
func areBorders(me int, borders []api.Border) bool {
	if len(borders) > api.MaxBorders {
		return false
	}
	last := 0
	for _, b := range borders {
		if !isBorder(b) || !shares(b, me) || b.Field <= last {
			return false
		}
		last = b.Field
	}
	return true
}

func isStroke(s api.Stroke) bool {
	switch s.Kind {
	case api.SkTally, api.SkAsked:
		return isField(s.Field) && isParish(s.Other) && within(s.No, 1, api.MaxTally)
	case api.SkWants:
		return isField(s.Field) && s.Other == 0 && within(s.No, 1, api.MaxTally)
	case api.SkBell:
		return isField(s.Field) && s.Other == 0 && within(s.No, 0, 1)
	}
	return false
}

// areStrokes reports whether strokes are valid, each by itself, and not too many.
func areStrokes(l []api.Stroke) bool {
	if len(l) > api.MaxStrokes {
		return false
	}
	for _, s := range l {
		if !isStroke(s) {
			return false
		}
	}
	return true
}

func isPeal(p api.Peal) bool {
	if !isParish(p.From) || !isParish(p.To) || p.From == p.To || len(p.Told) > api.MaxBorders {
		return false
	}
	last := 0
	for _, t := range p.Told {
		if !isField(t.Field) || t.Field <= last || !within(t.No, 0, api.MaxTally) || !within(t.Wants, 0, api.MaxTally) {
			return false
		}
		last = t.Field
	}
	return true
}

// CheckBorder returns OK for a valid border, and otherwise ErrBorder.
func CheckBorder(b api.Border) api.Errno { return verdict(isBorder(b), api.ErrBorder) }

// Check returns OK for a valid watch, and otherwise ErrWatch.
func Check(w api.Watch) api.Errno {
	_, e := read(w)
	return e
}

// CheckPeal returns OK for a valid peal, and otherwise ErrPeal.
func CheckPeal(p api.Peal) api.Errno { return verdict(isPeal(p), api.ErrPeal) }

// verdict returns OK if something is right, and otherwise an error.
func verdict(right bool, wrong api.Errno) api.Errno {
	if right {
		return api.OK
	}
	return wrong
}

// firstOf returns the first error of some results, or OK.
func firstOf(results ...api.Errno) api.Errno { return cmp.Or(results...) }
