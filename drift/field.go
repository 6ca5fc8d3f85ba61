package drift

import (
	"iter"

	"leazing/api"
)

// field is a valid ground that is looked at.
type field struct {
	api.Ground
	row map[int]int // the indices of the chains, by their ids
}

// fieldOf returns the field of a ground; ErrGround if that is not valid.
func fieldOf(g api.Ground) (field, api.Errno) {
	if !within(len(g.Chains), 1, api.MaxChains) || !within(len(g.Cells), 1, api.MaxCells) {
		return field{}, api.ErrGround
	}
	f := field{g, map[int]int{}}
	last := 0
	for i, c := range g.Chains {
		if CheckChain(c) != api.OK || c.Id <= last {
			return field{}, api.ErrGround
		}
		f.row[c.Id] = i
		last = c.Id
	}
	for _, c := range g.Cells {
		if _, has := f.row[c.Chain]; !has || CheckCell(c) != api.OK {
			return field{}, api.ErrGround
		}
	}
	return f, api.OK
}

// fieldWith returns the field of a ground that has drifts; ErrGround or ErrDrift if there is none.
func fieldWith(g api.Ground, drifts ...api.Drift) (field, api.Errno) {
	f, e := fieldOf(g)
	if e != api.OK {
		return field{}, e
	}
	for _, d := range drifts {
		if !f.has(d) {
			return field{}, api.ErrDrift
		}
	}
	return f, api.OK
}

func (f field) has(d api.Drift) bool {
	return d.From >= 0 && d.From <= d.To && d.To < len(f.Cells)
}

// worth returns what a drift is worth. Cells that the ground does not have are worth nothing.
func (f field) worth(d api.Drift) int {
	var worths []int
	for i := d.From; i <= d.To && i < len(f.Cells); i++ {
		worths = append(worths, f.Cells[i].Worth)
	}
	return sum(worths...)
}

// links returns how many links of each chain a drift has, in the order of the chains.
func (f field) links(d api.Drift) []int {
	links := make([]int, len(f.Chains))
	for _, cell := range f.Cells[d.From : d.To+1] {
		links[f.row[cell.Chain]] += cell.Links
	}
	return links
}

func sum(numbers ...int) int {
	total := 0
	for _, n := range numbers {
		total += n
	}
	return total
}

// driftsFrom yields the drifts from a cell to any one up to a last one, the shortest first.
func driftsFrom(from, last int) iter.Seq[api.Drift] {
	return func(yield func(api.Drift) bool) {
		for to := from; to <= last; to++ {
			if !yield(api.Drift{From: from, To: to}) {
				return
			}
		}
	}
}
