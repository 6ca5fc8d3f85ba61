package mill

import (
	"slices"

	"leazing/api"
)

// nobody is the index of a comer that is none.
const nobody = -1

// With returns a mill with one more comer, whose turn is last; ErrMill, ErrComer, or ErrLong.
func With(m api.Mill, c api.Comer) (api.Mill, api.Errno) {
	if e := Check(m); e != api.OK {
		return api.Mill{}, e
	}
	if !isNew(m, c) {
		return api.Mill{}, api.ErrComer
	}
	if len(m.Comers) == api.MaxComers {
		return api.Mill{}, api.ErrLong
	}
	return api.Mill{Hours: m.Hours, Comers: append(slices.Clone(m.Comers), c)}, api.OK
}

// Without returns a mill without the comer of a family; ErrMill or ErrComes.
func Without(m api.Mill, family int) (api.Mill, api.Errno) {
	i, e := find(m, family)
	if e != api.OK {
		return api.Mill{}, e
	}
	return without(m, i), api.OK
}

// without returns a mill without the comer that has an index.
func without(m api.Mill, index int) api.Mill {
	return api.Mill{Hours: m.Hours, Comers: slices.Delete(slices.Clone(m.Comers), index, index+1)}
}

// find returns the index of the comer of a family; ErrMill if the mill is not valid, and ErrComes if there is none.
func find(m api.Mill, family int) (int, api.Errno) {
	if e := Check(m); e != api.OK {
		return 0, e
	}
	i := indexOf(m, family)
	if i == nobody {
		return 0, api.ErrComes
	}
	return i, api.OK
}

// indexOf returns the index of the comer of a family, or nobody.
func indexOf(m api.Mill, family int) int {
	return slices.IndexFunc(m.Comers, func(c api.Comer) bool { return c.Family == family })
}

// families returns those of all comers, in order.
func families(m api.Mill) []int {
	var all []int
	for _, c := range m.Comers {
		all = append(all, c.Family)
	}
	return all
}

// shut returns a valid mill at which some families cannot come at an hour.
func shut(m api.Mill, hour int, to ...int) api.Mill {
	comers := slices.Clone(m.Comers)
	for i, c := range comers {
		if slices.Contains(to, c.Family) {
			comers[i].Hours &^= 1 << hour
		}
	}
	return api.Mill{Hours: m.Hours, Comers: comers}
}
