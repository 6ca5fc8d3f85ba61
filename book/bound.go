package book

import (
	"iter"
	"slices"

	"leazing/api"
)

// quire is the strips of one, the first of which are sewn.
type quire struct{ sewn, loose []api.Strip }

func (q quire) len() int { return len(q.sewn) + len(q.loose) }

// quires yields the quires of what is bound, in order, whatever it has as Sewn.
func quires(b api.Bound) iter.Seq2[int, quire] {
	return func(yield func(int, quire) bool) {
		for i, strips := range b.Strips {
			sewn := min(max(b.Sewn[i], 0), len(strips))
			if !yield(i, quire{sewn: strips[:sewn], loose: strips[sewn:]}) {
				return
			}
		}
	}
}

// copied returns a copy of what is bound.
func copied(b api.Bound) api.Bound {
	for i, strips := range b.Strips {
		b.Strips[i] = slices.Clone(strips)
	}
	return b
}

// put puts the strips of the no-th record at the ends of the quires.
func put(b *api.Bound, r api.Record, no int) {
	for i, s := range thirdsOf(r, no) {
		b.Strips[i] = append(b.Strips[i], s)
	}
}

// boundOf returns what has a log, with no strip sewn.
func boundOf(log []api.Record) api.Bound {
	var b api.Bound
	for no, r := range log {
		put(&b, r, no)
	}
	return b
}

// CheckBound returns OK if what is bound has the log, and otherwise ErrQuires.
func CheckBound(b api.Bound, log []api.Record) api.Errno {
	if !isLog(log) {
		return api.ErrQuires
	}
	whole := boundOf(log)
	for i, q := range quires(b) {
		if len(q.sewn) != b.Sewn[i] || !slices.Equal(b.Strips[i], whole.Strips[i]) {
			return api.ErrQuires
		}
	}
	return api.OK
}

// Write writes a record; ErrQuires, ErrRecord, ErrDiffer, ErrGap or ErrLong.
func Write(b api.Bound, log []api.Record, r api.Record) (api.Bound, []api.Record, api.Errno) {
	if e := CheckBound(b, log); e != api.OK {
		return api.Bound{}, nil, e
	}
	if _, e := Add(sortedBook(log), r); e != api.OK {
		return api.Bound{}, nil, e
	}
	more := copied(b)
	if slices.Contains(log, r) {
		return more, slices.Clone(log), api.OK
	}
	put(&more, r, len(log))
	return more, append(slices.Clone(log), r), api.OK
}

// Sew sews all strips.
func Sew(b api.Bound) api.Bound {
	sewn := copied(b)
	for i, q := range quires(b) {
		sewn.Sewn[i] = q.len()
	}
	return sewn
}

// Tear returns what is left when mice ate one of the quires, or none, and strips were lost or torn that were not sewn.
func Tear(b api.Bound, picks []int) api.Bound {
	pick := picking(picks)
	eaten := modulo(pick(), api.Quires+1)
	var left api.Bound
	for i, q := range quires(b) {
		loose := leftOf(q.loose, pick)
		if i != eaten {
			left.Strips[i], left.Sewn[i] = slices.Concat(q.sewn, loose), len(q.sewn)
		}
	}
	return left
}

// leftOf returns what is left of strips that are not sewn.
func leftOf(loose []api.Strip, pick func() int) []api.Strip {
	var left []api.Strip
	for _, s := range loose {
		fate := modulo(pick(), 3)
		bytes := pick()
		switch fate {
		case 1:
			s.Text = s.Text[:modulo(bytes, max(len(s.Text), 1))]
			left = append(left, s)
		case 2:
			left = append(left, s)
		}
	}
	return left
}

// picking returns a function that takes one number after the other.
func picking(picks []int) func() int {
	next := 0
	return func() int {
		if len(picks) == 0 {
			return 0
		}
		n := picks[next%len(picks)]
		next++
		return n
	}
}

func modulo(a, n int) int { return (a%n + n) % n }
