package mill

import (
	"iter"
	"slices"

	"leazing/api"
)

// rota is a valid mill that is looked at, and who has its hours.
type rota struct {
	api.Mill
	holders []int // of each hour: the index of the comer who has it, or nobody
}

// rotaOf returns the rota of a valid mill, of which nobody has an hour yet.
func rotaOf(m api.Mill) rota {
	r := rota{Mill: m}
	for range m.Hours {
		r.holders = append(r.holders, nobody)
	}
	return r
}

// filled returns the rota of a valid mill by which each comer has its hours, and how many these are.
func filled(m api.Mill) (rota, []int) {
	r := rotaOf(m)
	hours := make([]int, len(m.Comers))
	for had := range api.MaxTurns {
		for i, c := range m.Comers {
			if c.Wants <= had || hours[i] < had {
				continue
			}
			if _, got := r.more(i); got {
				hours[i]++
			}
		}
	}
	return r, hours
}

// more gives a comer one more hour, while each other one keeps as many as it has. If that cannot be, it returns false, and the bits of the hours that were asked for.
//
// Whoever has an hour that is asked for gives way if it finds another one. If none is left to be asked for, the comer and those who have the hours asked for can come at no other ones: so they are crowded, if the comer demands one more.
func (r *rota) more(comer int) (int, bool) {
	asked := 0
	var find func(taker int) bool
	find = func(taker int) bool {
		for hour := range hoursOf(r.Comers[taker].Hours) {
			if isIn(hour, asked) {
				continue
			}
			asked |= 1 << hour
			holder := r.holders[hour]
			if holder == nobody || find(holder) {
				r.holders[hour] = taker
				return true
			}
		}
		return false
	}
	found := find(comer)
	return asked, found
}

// serve gives each comer as many hours as it demands. If that cannot be, it returns false, and families that are crowded.
func (r *rota) serve(demands []int) ([]int, bool) {
	for i, demand := range demands {
		for range demand {
			if asked, got := r.more(i); !got {
				return r.comingOnlyAt(asked, demands), false
			}
		}
	}
	return nil, true
}

// comingOnlyAt returns the families, rising, that demand hours, and can come at none but some, by bits.
func (r *rota) comingOnlyAt(hours int, demands []int) []int {
	var coming []int
	for i, c := range r.Comers {
		if demands[i] > 0 && c.Hours&^hours == 0 {
			coming = append(coming, c.Family)
		}
	}
	slices.Sort(coming)
	return coming
}

// serves reports whether some sharing of a valid mill serves demands.
func serves(m api.Mill, demands []int) bool {
	r := rotaOf(m)
	_, served := r.serve(demands)
	return served
}

// isIn reports whether the bit of an hour is set.
func isIn(hour, hours int) bool { return hours>>hour&1 == 1 }

// hoursOf yields the hours whose bits are set, rising.
func hoursOf(hours int) iter.Seq[int] {
	return func(yield func(int) bool) {
		for hour := range api.MaxTurns {
			if isIn(hour, hours) && !yield(hour) {
				return
			}
		}
	}
}

// count returns how many hours have their bits set.
func count(hours int) int {
	n := 0
	for hour := range api.MaxTurns {
		if isIn(hour, hours) {
			n++
		}
	}
	return n
}

func sum(numbers ...int) int {
	total := 0
	for _, n := range numbers {
		total += n
	}
	return total
}
