package mill_test

import (
	"math"
	"math/rand"
	"slices"
	"testing"

	"leazing/api"
	"leazing/mill"
)

// P5.1, P5.4 and P5.5: the hours of the comers, the level, and sharings, also those that the package would not return.

// checkHours wants the hours of the comers, the level, and a sharing that is accepted; it returns the hours.
func checkHours(t *testing.T, m api.Mill) []int {
	t.Helper()
	c := crowdingOf(m)
	wanted := c.hours()
	hours, e := mill.Hours(m)
	if e != api.OK || !slices.Equal(hours, wanted) {
		t.Fatalf("%+v: the hours %v, error %d, want %v", m, hours, e, wanted)
	}
	level, e := mill.Level(m)
	if e != api.OK || level != c.level() {
		t.Fatalf("%+v: the level %d, error %d, want %d", m, level, e, c.level())
	}
	share, e := mill.Share(m)
	given, is := givenBy(m, share)
	if e != api.OK || !is || !slices.Equal(given, wanted) {
		t.Fatalf("%+v: the share %v, error %d, want one of %v", m, share, e, wanted)
	}
	wantError(t, m, api.OK, mill.CheckShare(m, share))
	checkFair(t, c, given, level)
	checkTurns(t, m, given)
	return wanted
}

// checkFair wants hours to be fair, by P5.4.
func checkFair(t *testing.T, c crowding, given []int, level int) {
	t.Helper()
	for i, n := range lesser(c.m, level) {
		if given[i] < n {
			t.Fatalf("%+v: %v is less than the level %d", c.m, given, level)
		}
	}
	if level < 24 && c.serves(lesser(c.m, level+1)) {
		t.Fatalf("%+v: more than the level %d is served", c.m, level)
	}
	for i, comer := range c.m.Comers {
		if more := slices.Clone(given); given[i] < comer.Wants {
			more[i]++
			if c.serves(more) {
				t.Fatalf("%+v: %v, but one more for %d is served", c.m, given, comer.Family)
			}
		}
	}
}

// checkTurns wants hours to be given by turns, by P5.5.
func checkTurns(t *testing.T, m api.Mill, given []int) {
	t.Helper()
	for i, c := range m.Comers {
		room := 0
		for hour := range m.Hours {
			if can(c, hour) {
				room++
			}
		}
		if given[i] > c.Wants || given[i] > room {
			t.Fatalf("%+v: %v is too much for %d", m, given, c.Family)
		}
		for j, other := range m.Comers[:i] {
			if other.Hours == c.Hours && other.Wants == c.Wants && given[j] != given[i] && given[j] != given[i]+1 {
				t.Fatalf("%+v: %v, for %d and %d, who come alike", m, given, other.Family, c.Family)
			}
		}
	}
}

// TestHours: mills of which all sharings are known, those at the limits, and those between.
func TestHours(t *testing.T) {
	for i, most := range []size{small, {6, 8}, {12, 6}, {24, 4}, {24, 9}} {
		short, level := 0, map[int]int{}
		mills(int64(20+i), 1000, most, func(m api.Mill) {
			hours := checkHours(t, m)
			for i, c := range m.Comers {
				if hours[i] < c.Wants {
					short++
				}
			}
			n, _ := mill.Level(m)
			level[n]++
		})
		if short < 500 || len(level) < 5 || level[0] < 50 || level[1] < 50 || level[24] < 50 {
			t.Error(most, "short:", short, "levels:", level)
		}
	}
	mills(28, 300, great, func(m api.Mill) { checkHours(t, m) })
}

// TestTurns: P5.5: the same comers in other turns.
func TestTurns(t *testing.T) {
	r := rand.New(rand.NewSource(29))
	other := 0
	mills(29, 500, size{24, 8}, func(m api.Mill) {
		before := checkHours(t, m)
		order := r.Perm(len(m.Comers))
		turned, same := api.Mill{Hours: m.Hours}, []int(nil)
		for _, i := range order {
			turned.Comers = append(turned.Comers, m.Comers[i])
			same = append(same, before[i])
		}
		if !slices.Equal(checkHours(t, turned), same) {
			other++
		}
	})
	if other < 50 {
		t.Error("too few whose hours are others:", other)
	}
}

// TestAlike: comers of the same hours, who want as many: as many hours as they demand together, one less, and others.
func TestAlike(t *testing.T) {
	for hours := range 25 {
		for comers := range 13 {
			for _, wants := range list(0, 1, 2, 3, 23, 24) {
				m := api.Mill{Hours: hours, Comers: many(comers, 1<<hours-1, wants)}
				var wanted []int
				for i := range comers {
					wanted = append(wanted, min(wants, (hours+comers-1-i)/comers))
				}
				wantList(t, m, wanted, api.OK)(mill.Hours(m))
				level := 24
				if comers*wants > hours {
					level = hours / comers
				}
				want(t, m, level, api.OK)(mill.Level(m))
				if comers < 7 {
					checkHours(t, m)
				}
			}
		}
	}
}

// TestGivingWay: comers who can come at two hours each, one after the other, so that all must give way to the last one, who can come at the first hour only.
func TestGivingWay(t *testing.T) {
	for comers := range 12 {
		m := api.Mill{Hours: comers + 1}
		for i := range comers {
			m.Comers = append(m.Comers, api.Comer{Family: 99 - i, Hours: 3 << i, Wants: 24})
		}
		m.Comers = append(m.Comers, api.Comer{Family: 5, Hours: 1, Wants: 24})
		wanted := slices.Repeat(list(1), comers+1)
		wantList(t, m, wanted, api.OK)(mill.Hours(m))
		checkHours(t, m)
		slices.Reverse(m.Comers)
		checkHours(t, m)
		m.Comers[0].Hours = 0
		hours := checkHours(t, m)
		if hours[0] != 0 {
			t.Errorf("%+v: %v", m, hours)
		}
	}
}

// checkShare wants a list to be accepted exactly if it is a sharing that gives the comers their hours.
func checkShare(t *testing.T, m api.Mill, hours, share []int) bool {
	t.Helper()
	given, is := givenBy(m, share)
	is = is && slices.Equal(given, hours)
	if e := mill.CheckShare(m, share); e != verdict(is, api.ErrShare) {
		t.Fatalf("%+v: error %d for %v; it is a share: %t", m, e, share, is)
	}
	return is
}

// TestAllSharings: P5.4: those of all sharings are accepted that give the comers their hours, and no others.
func TestAllSharings(t *testing.T) {
	accepted, refused := 0, 0
	mills(30, 300, size{6, 4}, func(m api.Mill) {
		hours := crowdingOf(m).hours()
		found := false
		sharings(m, func(share, given []int) {
			if checkShare(t, m, hours, share) {
				accepted++
				found = true
			} else {
				refused++
			}
		})
		if !found {
			t.Fatalf("%+v: no sharing of all gives %v", m, hours)
		}
	})
	if accepted < 500 || refused < 10000 {
		t.Error("accepted:", accepted, "refused:", refused)
	}
}

// TestAllLists: all lists of numbers, those of families who come, of others, and 0, on small mills; also those that are too short or too long.
func TestAllLists(t *testing.T) {
	accepted := 0
	mills(31, 300, size{3, 2}, func(m api.Mill) {
		hours := crowdingOf(m).hours()
		numbers := list(0, -1, 100, 1)
		for _, c := range m.Comers {
			numbers = append(numbers, c.Family)
		}
		lists := [][]int{nil}
		for range m.Hours + 2 {
			var longer [][]int
			for _, l := range lists {
				if checkShare(t, m, hours, l) {
					accepted++
				}
				for _, n := range numbers {
					longer = append(longer, append(slices.Clone(l), n))
				}
			}
			lists = longer
		}
	})
	if accepted < 300 {
		t.Error("accepted:", accepted)
	}
}

// nearShares calls try with lists that differ a little from one.
func nearShares(r *rand.Rand, m api.Mill, share []int, try func(near []int)) {
	try(append(slices.Clone(share), 0))
	try(slices.Concat(share, share))
	others := list(0, -1, 100, math.MinInt, math.MaxInt, 1+r.Intn(99))
	for _, c := range m.Comers {
		others = append(others, c.Family, -c.Family, c.Family+1<<32)
	}
	for i := range share {
		try(share[:i])
		try(slices.Delete(slices.Clone(share), i, i+1))
		for _, n := range others {
			near := slices.Clone(share)
			near[i] = n
			try(near)
		}
		j := r.Intn(len(share))
		near := slices.Clone(share)
		near[i], near[j] = near[j], near[i]
		try(near)
	}
}

// TestOwnShares: what is nearly the share that Share returns, on mills up to the limits.
func TestOwnShares(t *testing.T) {
	r := rand.New(rand.NewSource(32))
	accepted, refused := 0, 0
	mills(32, 150, size{24, 10}, func(m api.Mill) {
		share, e := mill.Share(m)
		if e != api.OK {
			t.Fatalf("%+v: error %d", m, e)
		}
		hours := crowdingOf(m).hours()
		nearShares(r, m, share, func(near []int) {
			if checkShare(t, m, hours, near) {
				accepted++
			} else {
				refused++
			}
		})
	})
	if accepted < 1000 || refused < 10000 {
		t.Error("accepted:", accepted, "refused:", refused)
	}
}

// TestWorseShares: sharings by which somebody has less than can be, or another one has more.
func TestWorseShares(t *testing.T) {
	m := api.Mill{Hours: 3, Comers: many(2, 7, 3)} // the families 1 and 3
	for _, x := range []struct {
		share []int
		want  api.Errno
	}{{list(1, 1, 3), api.OK}, {list(3, 1, 1), api.OK}, {list(1, 3, 3), api.ErrShare}, {list(1, 3, 0), api.ErrShare}, {list(1, 1, 1), api.ErrShare}, {list(0, 0, 0), api.ErrShare}, {list(1, 1, 5), api.ErrShare}} {
		wantError(t, x.share, x.want, mill.CheckShare(m, x.share))
	}
	m.Comers[0].Wants = 1
	wantError(t, "less wanted", api.OK, mill.CheckShare(m, list(3, 1, 3)))
	wantError(t, "more than wanted", api.ErrShare, mill.CheckShare(m, list(1, 1, 3)))
	m.Comers[1].Hours = 5
	wantError(t, "other hours", api.OK, mill.CheckShare(m, list(3, 1, 3)))
	wantError(t, "an hour of others", api.ErrShare, mill.CheckShare(m, list(1, 3, 3)))
}
