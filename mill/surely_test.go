package mill_test

import (
	"math"
	"math/rand"
	"slices"
	"testing"

	"leazing/api"
	"leazing/mill"
)

// P5.1, P5.6 and P5.7: what is so by all sharings that give the comers their hours, and who has others without a family.

// surely is, of all sharings that give the comers their hours: how many there are, of how many of them each hour is a comer's, and of how many it is nobody's.
type surely struct {
	all  int
	of   [][]int
	idle []int
}

func surelyOf(m api.Mill) surely {
	hours := crowdingOf(m).hours()
	s := surely{of: make([][]int, len(m.Comers)), idle: make([]int, m.Hours)}
	for i := range s.of {
		s.of[i] = make([]int, m.Hours)
	}
	sharings(m, func(share, given []int) {
		if !slices.Equal(given, hours) {
			return
		}
		s.all++
		for hour, family := range share {
			if family == 0 {
				s.idle[hour]++
			}
			for i, c := range m.Comers {
				if c.Family == family {
					s.of[i][hour]++
				}
			}
		}
	})
	return s
}

// answer tells of how many sharings something is so.
func (s surely) answer(n int) int {
	switch n {
	case 0:
		return api.No
	case s.all:
		return api.Yes
	}
	return api.Maybe
}

// TestAllSurely: Comes and Idle by all sharings of small mills.
func TestAllSurely(t *testing.T) {
	answers, idle := map[int]int{}, map[int]int{}
	for i, most := range []size{small, {4, 6}, {7, 3}} {
		mills(int64(60+i), 400, most, func(m api.Mill) {
			s := surelyOf(m)
			var rising []int
			for hour, n := range s.idle {
				idle[s.answer(n)]++
				if n > 0 {
					rising = append(rising, hour)
				}
			}
			wantList(t, m, rising, api.OK)(mill.Idle(m))
			for i, c := range m.Comers {
				for hour, n := range s.of[i] {
					answers[s.answer(n)]++
					want(t, []any{m, c.Family, hour}, s.answer(n), api.OK)(mill.Comes(m, c.Family, hour))
				}
			}
		})
	}
	for _, answer := range list(api.No, api.Yes, api.Maybe) {
		if answers[answer] < 500 || idle[answer] < 200 {
			t.Error("answers:", answers, "idle:", idle)
		}
	}
}

// withoutHour returns a mill at which a comer cannot come at an hour, or nobody can if the index is -1.
func withoutHour(m api.Mill, index, hour int) api.Mill {
	return changed(m, index, func(hours int) int { return hours - hours&(1<<hour) })
}

// TestSurely: Comes and Idle on mills up to the limits, by Hall's theorem.
func TestSurely(t *testing.T) {
	answers := map[int]int{}
	r := rand.New(rand.NewSource(63))
	for i, most := range []size{{12, 6}, {24, 4}, {24, 8}, great} {
		mills(int64(64+i), 100, most, func(m api.Mill) {
			hours := crowdingOf(m).hours()
			var idle []int
			for hour := range m.Hours {
				nobody := crowdingOf(withoutHour(m, -1, hour))
				if nobody.serves(hours) {
					idle = append(idle, hour)
				}
				for i, c := range m.Comers {
					if len(m.Comers) > 8 && r.Intn(8) > 0 {
						continue
					}
					answer := answerOf(m, hours, nobody, i, hour)
					answers[answer]++
					want(t, []any{m, c.Family, hour}, answer, api.OK)(mill.Comes(m, c.Family, hour))
				}
			}
			wantList(t, m, idle, api.OK)(mill.Idle(m))
		})
	}
	if answers[api.No] < 2000 || answers[api.Yes] < 300 || answers[api.Maybe] < 1000 {
		t.Error("answers:", answers)
	}
}

// answerOf tells whether an hour is a comer's: surely, if its hours cannot be served without this one; and perhaps, if its other ones, and those of all others, can be served when nobody comes then.
func answerOf(m api.Mill, hours []int, nobody crowding, i, hour int) int {
	others := slices.Clone(hours)
	others[i]--
	switch {
	case !can(m.Comers[i], hour) || others[i] < 0 || !nobody.serves(others):
		return api.No
	case crowdingOf(withoutHour(m, i, hour)).serves(hours):
		return api.Maybe
	}
	return api.Yes
}

// TestKept: P5.7: by a sharing that is accepted families have the hours that are surely theirs, and none that surely are not; what nobody has is idle; and the mill without an idle hour serves the same hours.
func TestKept(t *testing.T) {
	idles := 0
	mills(70, 400, great, func(m api.Mill) {
		share, e := mill.Share(m)
		wantError(t, m, api.OK, e)
		idle, e := mill.Idle(m)
		wantError(t, m, api.OK, e)
		for hour, family := range share {
			if family == 0 && !slices.Contains(idle, hour) {
				t.Fatalf("%+v: by %v nobody has the hour %d, which is not of %v", m, share, hour, idle)
			}
			for _, c := range m.Comers {
				answer, e := mill.Comes(m, c.Family, hour)
				if e != api.OK || answer == api.Yes && family != c.Family || answer == api.No && family == c.Family {
					t.Fatalf("%+v: by %v the hour %d is not that of %d, but: %d, error %d", m, share, hour, c.Family, answer, e)
				}
			}
		}
		hours, e := mill.Hours(m)
		wantError(t, m, api.OK, e)
		for _, hour := range idle {
			idles++
			want(t, m, true, api.OK)(mill.Serves(withoutHour(m, -1, hour), hours))
			wantList(t, m, hours, api.OK)(mill.Hours(withoutHour(m, -1, hour)))
		}
	})
	if idles < 500 {
		t.Error("idle:", idles)
	}
}

// TestMoved: those others are named that have another number of hours without a family, rising.
func TestMoved(t *testing.T) {
	for i, most := range []size{small, {6, 8}, {24, 6}, {24, 9}} {
		moved, kept, more := 0, 0, 0
		mills(int64(71+i), 600, most, func(m api.Mill) {
			before := crowdingOf(m).hours()
			for i, c := range m.Comers {
				others := without(m, i)
				after := crowdingOf(others).hours()
				var wanted []int
				for j, n := range slices.Delete(slices.Clone(before), i, i+1) {
					if n != after[j] {
						wanted = append(wanted, others.Comers[j].Family)
					} else {
						kept++
					}
				}
				slices.Sort(wanted)
				moved += len(wanted)
				if len(wanted) > 1 {
					more++
				}
				wantList(t, []any{m, c.Family}, wanted, api.OK)(mill.Moved(m, c.Family))
			}
		})
		if moved < 200 || kept < 200 || more < 5 {
			t.Error(most, "moved:", moved, "kept:", kept, "more than one:", more)
		}
	}
}

// TestMore: P5.6: with one more hour for a family, and without a family, the level is no less.
func TestMore(t *testing.T) {
	rises, same := 0, 0
	compare := func(what string, before int, m api.Mill) {
		t.Helper()
		after, e := mill.Level(m)
		if e != api.OK || after < before {
			t.Fatalf("%s, %+v: the level %d, error %d, was %d before", what, m, after, e, before)
		}
		if after > before {
			rises++
		} else {
			same++
		}
	}
	mills(76, 400, great, func(m api.Mill) {
		level, e := mill.Level(m)
		wantError(t, m, api.OK, e)
		hours, e := mill.Hours(m)
		wantError(t, m, api.OK, e)
		for i, c := range m.Comers {
			for hour := range m.Hours {
				compare("one more hour", level, changed(m, i, func(hours int) int { return hours | 1<<hour }))
			}
			compare("without a family", level, without(m, i))
			checkKeeps(t, m, c.Family, hours)
		}
	})
	if rises < 500 || same < 500 {
		t.Error("rises:", rises, "same:", same)
	}
}

// checkKeeps wants those whom Moved does not name to have as many hours without a family as before, and all others another number.
func checkKeeps(t *testing.T, m api.Mill, family int, hours []int) {
	t.Helper()
	moved, e := mill.Moved(m, family)
	wantError(t, m, api.OK, e)
	others, e := mill.Without(m, family)
	wantError(t, m, api.OK, e)
	after, e := mill.Hours(others)
	wantError(t, m, api.OK, e)
	for i, c := range others.Comers {
		j := slices.Index(m.Comers, c)
		if slices.Contains(moved, c.Family) == (after[i] == hours[j]) {
			t.Fatalf("%+v: without %d, %d has %d hours, of %d; moved: %v", m, family, c.Family, after[i], hours[j], moved)
		}
	}
}

// TestSurelyAtEdges: the hours and families that are none of the mill, and mills of one comer.
func TestSurelyAtEdges(t *testing.T) {
	for hours := range 25 {
		m := api.Mill{Hours: hours, Comers: []api.Comer{{Family: 7, Hours: 1<<hours - 1, Wants: 24}, {Family: 3, Wants: 24}, {Family: 5, Hours: 1<<hours - 1}}}
		edges(0, hours-1, func(n int, valid bool) {
			for family, answer := range map[int]int{7: api.Yes, 3: api.No, 5: api.No} {
				if !valid {
					answer = api.No
				}
				want(t, []any{m, family, n}, answer, verdict(valid, api.ErrHour))(mill.Comes(m, family, n))
			}
			for _, family := range list(math.MinInt, -7, 0, 1, 99, math.MaxInt) {
				want(t, []any{m, family, n}, 0, api.ErrComes)(mill.Comes(m, family, n))
			}
		})
		wantList(t, m, nil, api.OK)(mill.Idle(m))
		wantList(t, m, nil, api.OK)(mill.Moved(m, 7))
		m.Comers[0].Wants = min(24, max(0, hours-1))
		all := slices.Collect(func(yield func(int) bool) {
			for hour := 0; hour < hours && yield(hour); hour++ {
			}
		})
		wantList(t, m, all, api.OK)(mill.Idle(m))
		m.Comers[2].Wants = 1
		wantList(t, m, nil, api.OK)(mill.Moved(m, 3))
	}
}
