package mill

import "leazing/api"

// Serves reports whether each comer can have as many hours as it demands.
func Serves(m api.Mill, hours []int) (bool, api.Errno) {
	if e := checkDemands(m, hours); e != api.OK {
		return false, e
	}
	return serves(m, hours), api.OK
}

// Crowd returns families that are crowded for demands; ErrEnough if there are none.
func Crowd(m api.Mill, hours []int) ([]int, api.Errno) {
	if e := checkDemands(m, hours); e != api.OK {
		return nil, e
	}
	return crowd(m, hours)
}

// CheckCrowd returns OK if families are crowded for demands, and otherwise ErrMill, ErrFew or ErrCrowd.
func CheckCrowd(m api.Mill, hours, families []int) api.Errno {
	if e := checkDemands(m, hours); e != api.OK {
		return e
	}
	if !areCrowded(m, hours, families) {
		return api.ErrCrowd
	}
	return api.OK
}

// Unserved returns families that cannot have one hour each, as far as they want one; ErrEnough if all can.
func Unserved(m api.Mill) ([]int, api.Errno) {
	if e := Check(m); e != api.OK {
		return nil, e
	}
	var demands []int
	for _, c := range m.Comers {
		demands = append(demands, min(1, c.Wants))
	}
	return crowd(m, demands)
}

// crowd returns families that are crowded for demands of a valid mill; ErrEnough if there are none.
func crowd(m api.Mill, demands []int) ([]int, api.Errno) {
	r := rotaOf(m)
	crowded, served := r.serve(demands)
	if served {
		return nil, api.ErrEnough
	}
	return crowded, api.OK
}

// checkDemands returns ErrMill if a mill is not valid, and ErrFew if hours are no demands of it.
func checkDemands(m api.Mill, hours []int) api.Errno {
	if e := Check(m); e != api.OK {
		return e
	}
	if len(hours) != len(m.Comers) {
		return api.ErrFew
	}
	for _, n := range hours {
		if !within(n, 0, api.MaxTurns) {
			return api.ErrFew
		}
	}
	return api.OK
}

// areCrowded reports whether families are crowded for demands of a valid mill.
func areCrowded(m api.Mill, demands, families []int) bool {
	hours, last := 0, 0
	var demanded []int
	for _, family := range families {
		i := indexOf(m, family)
		if i == nobody || family <= last {
			return false
		}
		last = family
		hours |= m.Comers[i].Hours
		demanded = append(demanded, demands[i])
	}
	return count(hours) < sum(demanded...)
}
