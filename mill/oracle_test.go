package mill_test

import (
	"math/bits"
	"math/rand"
	"slices"
	"testing"

	"leazing/api"
)

// This file tells, straight from the chapter's definitions, what sharings, hours and crowds are, tries all sharings of small mills, and lays random mills.

// can tells whether a comer can come at an hour.
func can(c api.Comer, hour int) bool { return c.Hours/(1<<hour)%2 == 1 }

// sharings calls try with all sharings of a mill, and how many hours each comer has by them; the lists are only lent.
func sharings(m api.Mill, try func(share, given []int)) {
	share, given := make([]int, m.Hours), make([]int, len(m.Comers))
	var add func(hour int)
	add = func(hour int) {
		if hour == m.Hours {
			try(share, given)
			return
		}
		share[hour] = 0
		add(hour + 1)
		for i, c := range m.Comers {
			if can(c, hour) {
				share[hour] = c.Family
				given[i]++
				add(hour + 1)
				given[i]--
			}
		}
	}
	add(0)
}

// givenBy returns how many hours each comer has by a share; false if that is no sharing.
func givenBy(m api.Mill, share []int) ([]int, bool) {
	given, is := make([]int, len(m.Comers)), len(share) == m.Hours
	for hour, family := range share {
		has := family == 0
		for i, c := range m.Comers {
			if c.Family == family && hour < m.Hours && can(c, hour) {
				given[i]++
				has = true
			}
		}
		is = is && has
	}
	return given, is
}

// crowding has, for each set of comers, by bits, how many hours there are at which one of them can come.
type crowding struct {
	m    api.Mill
	room []int
}

func crowdingOf(m api.Mill) crowding {
	c := crowding{m: m}
	for set := range 1 << len(m.Comers) {
		hours := 0
		for i, comer := range m.Comers {
			if set>>i&1 == 1 {
				hours |= comer.Hours
			}
		}
		c.room = append(c.room, bits.OnesCount(uint(hours)))
	}
	return c
}

// demandOf returns what a set of comers demands.
func demandOf(demands []int, set int) int {
	demand := 0
	for i, n := range demands {
		if set>>i&1 == 1 {
			demand += n
		}
	}
	return demand
}

// serves tells whether no set of comers demands more hours than it can come at. By Hall's theorem some sharing serves the demands then; TestOracle compares it with all sharings.
func (c crowding) serves(demands []int) bool {
	sums := make([]int, len(c.room))
	for set := 1; set < len(sums); set++ {
		lowest := set & -set
		sums[set] = sums[set-lowest] + demands[bits.TrailingZeros(uint(lowest))]
		if sums[set] > c.room[set] {
			return false
		}
	}
	return true
}

// hours returns the hours of the comers.
func (c crowding) hours() []int {
	hours := make([]int, len(c.m.Comers))
	for r := 1; r <= 24; r++ {
		for i, comer := range c.m.Comers {
			if comer.Wants >= r && hours[i] == r-1 {
				hours[i]++
				if !c.serves(hours) {
					hours[i]--
				}
			}
		}
	}
	return hours
}

// lesser returns, for each comer, the lesser one of a number and what it wants.
func lesser(m api.Mill, n int) []int {
	demands := make([]int, len(m.Comers))
	for i, c := range m.Comers {
		demands[i] = min(n, c.Wants)
	}
	return demands
}

func (c crowding) level() int {
	level := 0
	for k := 1; k <= 24; k++ {
		if c.serves(lesser(c.m, k)) {
			level = k
		}
	}
	return level
}

// isCrowd tells whether families are crowded for demands.
func isCrowd(m api.Mill, demands, families []int) bool {
	demand, hours, found := 0, map[int]bool{}, 0
	for i, family := range families {
		if i > 0 && family <= families[i-1] {
			return false
		}
		for j, c := range m.Comers {
			if c.Family != family {
				continue
			}
			found++
			demand += demands[j]
			for hour := range m.Hours {
				if can(c, hour) {
					hours[hour] = true
				}
			}
		}
	}
	return found == len(families) && len(hours) < demand
}

// familiesOf returns the families of a set of comers, rising.
func familiesOf(m api.Mill, set int) []int {
	var families []int
	for i, c := range m.Comers {
		if set>>i&1 == 1 {
			families = append(families, c.Family)
		}
	}
	slices.Sort(families)
	return families
}

// without returns a mill without the comer that has an index.
func without(m api.Mill, i int) api.Mill {
	return api.Mill{Hours: m.Hours, Comers: slices.Delete(slices.Clone(m.Comers), i, i+1)}
}

// changed returns a mill whose comer with an index comes at other hours; all comers do if the index is -1.
func changed(m api.Mill, index int, change func(hours int) int) api.Mill {
	comers := slices.Clone(m.Comers)
	for i := range comers {
		if i == index || index == -1 {
			comers[i].Hours = change(comers[i].Hours)
		}
	}
	return api.Mill{Hours: m.Hours, Comers: comers}
}

// size says how many hours and comers a mill has.
type size struct{ hours, comers int }

// randomHours returns hours of so many, by bits: none, all, one, some next to each other, or any.
func randomHours(r *rand.Rand, hours, kind int) int {
	all := 1<<hours - 1
	if hours == 0 {
		return 0
	}
	if kind == 6 {
		kind = r.Intn(6)
	}
	switch kind {
	case 0:
		return 0
	case 1:
		return all
	case 2:
		return 1 << r.Intn(hours)
	case 3:
		from, many := r.Intn(hours), 1+r.Intn(4)
		return (1<<many - 1) << from & all
	case 4:
		return r.Intn(all+1) & r.Intn(all+1)
	}
	return r.Intn(all + 1)
}

// randomMill lays a mill of a size. Some comers come at the hours of another one, and want as many.
func randomMill(r *rand.Rand, z size) api.Mill {
	m := api.Mill{Hours: z.hours}
	families := r.Perm(99)
	kind, most := []int{1, 3, 4, 5, 6, 6, 6}[r.Intn(7)], []int{1, 2, 4, 24}[r.Intn(4)]
	for i := range z.comers {
		c := api.Comer{Family: families[i] + 1, Hours: randomHours(r, z.hours, kind), Wants: r.Intn(most + 1)}
		switch r.Intn(8) {
		case 0:
			c.Wants = 24
		case 1:
			c.Wants = z.hours
		case 2, 3:
			if i > 0 {
				other := m.Comers[r.Intn(i)]
				c.Hours, c.Wants = other.Hours, other.Wants
			}
		}
		m.Comers = append(m.Comers, c)
	}
	return m
}

// mills calls try with n random mills of at most a size: always the same ones. The first ones are at the edges.
func mills(seed int64, n int, most size, try func(m api.Mill)) {
	r := rand.New(rand.NewSource(seed))
	edges := []size{{0, 0}, {most.hours, 0}, {0, most.comers}, {1, 1}, {1, most.comers}, {most.hours, 1}, most, {most.comers, most.comers}, {most.comers - 1, most.comers}}
	for i := range n {
		z := size{r.Intn(most.hours + 1), r.Intn(most.comers + 1)}
		if i < 10*len(edges) {
			z = edges[i%len(edges)]
		}
		try(randomMill(r, z))
	}
}

// small mills have few enough sharings that all are tried; great ones are at the limits.
var (
	small = size{6, 3}
	great = size{24, 12}
)

// allDemands calls try with all demands of comers up to a number.
func allDemands(comers, most int, try func(demands []int)) {
	demands := make([]int, comers)
	var add func(i int)
	add = func(i int) {
		if i == comers {
			try(slices.Clone(demands))
			return
		}
		for n := range most + 1 {
			demands[i] = n
			add(i + 1)
		}
	}
	add(0)
}

// TestOracle: demands are served exactly if one of all sharings does it, and the hours of the comers are among those that are.
func TestOracle(t *testing.T) {
	served, refused := 0, 0
	mills(1, 400, small, func(m api.Mill) {
		attained := map[[3]int]bool{}
		sharings(m, func(share, given []int) {
			if counts, is := givenBy(m, share); !is || !slices.Equal(counts, given) {
				t.Fatalf("%+v: %v gives %v", m, share, counts)
			}
			var key [3]int
			copy(key[:], given)
			attained[key] = true
		})
		c := crowdingOf(m)
		allDemands(len(m.Comers), 7, func(demands []int) {
			var key [3]int
			copy(key[:], demands)
			if c.serves(demands) != attained[key] {
				t.Fatalf("%+v: %v is served: %t", m, demands, attained[key])
			}
			if attained[key] {
				served++
			} else {
				refused++
			}
		})
	})
	if served < 2000 || refused < 20000 {
		t.Error("served:", served, "refused:", refused)
	}
}
