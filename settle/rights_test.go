package settle_test

import (
	"math/rand"
	"slices"
	"testing"

	"leazing/api"
	"leazing/settle"
)

// P2.1: where somebody is settled by all readings, against all that can be tried.

// scene is random proofs as known on a day, with all their readings, and a day that is asked for.
type scene struct {
	l, count   []api.Proof
	known, day int
	readings   [][]int
}

// scenes calls do for random proofs and days: always the same ones.
func scenes(lists, days int, do func(s scene)) {
	r := rand.New(rand.NewSource(4))
	for _, l := range randomProofs(lists) {
		known := r.Intn(lastKnown + 1)
		count := counting(l, known)
		readings := allReadings(count)
		for range days {
			do(scene{l, count, known, daysTried[r.Intn(len(daysTried))], readings})
		}
	}
}

func (s scene) places(person int) []int { return placesOf(s.count, s.readings, person, s.day) }

// read returns OK if the scene has a reading.
func (s scene) read() api.Errno {
	if len(s.readings) == 0 {
		return api.ErrUnread
	}
	return api.OK
}

func TestWhereAndRight(t *testing.T) {
	answers := map[int]int{}
	scenes(1000, 4, func(s scene) {
		for person := 1; person <= lastPerson+1; person++ {
			places := s.places(person)
			wantList(t, s, places, s.read())(settle.Where(s.l, person, s.day, s.known))
			for parish := range parishes + 1 {
				answer := answerOf(places, parish)
				answers[answer]++
				wantNumber(t, s, answer, s.read())(settle.Right(s.l, person, parish, s.day, s.known))
			}
		}
	})
	for answer := api.No; answer <= api.Maybe; answer++ {
		if answers[answer] < 1000 {
			t.Error("too few of an answer were tried:", answers)
		}
	}
}

func TestShow(t *testing.T) {
	scenes(500, 3, func(s scene) {
		for person := 1; person <= lastPerson+1; person++ {
			for parish := range parishes + 1 {
				for _, settled := range []bool{false, true} {
					at := slices.IndexFunc(s.readings, func(reading []int) bool {
						return (settledOf(s.count, reading, person, s.day) == parish) == settled
					})
					show := wantList(t, s, nil, max(s.read(), api.ErrNone))
					if at >= 0 {
						show = wantList(t, s, s.readings[at], api.OK)
					}
					show(settle.Show(s.l, person, parish, s.day, s.known, settled))
				}
			}
		}
	})
}

func TestPersonsBelongAndMay(t *testing.T) {
	scenes(1000, 3, func(s scene) {
		wantList(t, s, personsOf(s.count), api.OK)(settle.Persons(s.l, s.known))
		for parish := range parishes + 1 {
			var belong, may []int
			for _, person := range personsOf(s.count) {
				switch answerOf(s.places(person), parish) {
				case api.Yes:
					belong, may = append(belong, person), append(may, person)
				case api.Maybe:
					may = append(may, person)
				}
			}
			wantList(t, s, belong, s.read())(settle.Belong(s.l, parish, s.day, s.known))
			wantList(t, s, may, s.read())(settle.May(s.l, parish, s.day, s.known))
		}
	})
}

func TestPersonsAtTheEdges(t *testing.T) {
	l := []api.Proof{
		{Source: 99998, Kind: api.PfMarried, Persons: list(1, 998), Other: 999, Day: 2},
		{Source: 99999, Kind: api.PfRemoved, Persons: list(998, 999), Parish: 5, Day: 1},
	}
	wantList(t, "persons", list(1, 998, 999), api.OK)(settle.Persons(l, 0))
	wantList(t, "may", list(1, 998, 999), api.OK)(settle.May(l, 5, 4166, 4166))
	wantList(t, "belong", nil, api.OK)(settle.Belong(l, 5, 4166, 4166))
	l[1].Persons = list(999)
	wantList(t, "belong", list(999), api.OK)(settle.Belong(l, 5, 4166, 4166))
	l[0].Persons = list(1)
	wantList(t, "belong", list(1, 999), api.OK)(settle.Belong(l, 5, 4166, 4166))
	wantList(t, "belong on the first day", nil, api.OK)(settle.Belong(l, 5, 0, 0))
	wantList(t, "belong on the day before the marriage", list(999), api.OK)(settle.Belong(l, 5, 1, 0))
}

func TestRests(t *testing.T) {
	resting := 0
	scenes(300, 2, func(s scene) {
		for person := 1; person <= lastPerson+1; person++ {
			for parish := range parishes {
				var rests []int
				for _, source := range sourcesOf(s.count) {
					fewer := lessOne(s.count, source)
					places := placesOf(fewer, allReadings(fewer), person, s.day)
					if s.read() == api.OK && answerOf(places, parish) != answerOf(s.places(person), parish) {
						rests = append(rests, source)
					}
				}
				resting += len(rests)
				wantList(t, s, rests, s.read())(settle.Rests(s.l, person, parish, s.day, s.known))
			}
		}
	})
	if resting < 300 {
		t.Error("too little rests on a proof:", resting)
	}
}

func TestMoved(t *testing.T) {
	some := map[bool]int{}
	scenes(700, 2, func(s scene) {
		for _, source := range sourcesOf(s.l) {
			fewer := lessOne(s.count, source)
			readings := allReadings(fewer)
			var moved []int
			for _, person := range personsOf(s.count) {
				after := placesOf(fewer, readings, person, s.day)
				if (len(readings) > 0) != (len(s.readings) > 0) || !slices.Equal(after, s.places(person)) {
					moved = append(moved, person)
				}
			}
			some[len(s.readings) > 0] += len(moved)
			wantList(t, s, moved, api.OK)(settle.Moved(s.l, source, s.day, s.known))
		}
		wantList(t, s, nil, api.ErrNone)(settle.Moved(s.l, 99, s.day, s.known))
	})
	if some[false] < 200 || some[true] < 200 {
		t.Error("too few moved:", some)
	}
}

// TestLargest: the most proofs with the most readings are answered, and all of a long row of marriages follow from the last one.
func TestLargest(t *testing.T) {
	var l []api.Proof
	for i := 1; i <= 52; i++ {
		l = append(l, api.Proof{Source: i, Kind: api.PfMarried, Persons: list(i), Other: i + 1, Day: 4000 - i})
	}
	for i, persons := range list(3, 3, 3, 3, 3, 2, 2, 2) {
		l = append(l, api.Proof{Source: 53 + i, Kind: api.PfCertify, Persons: list(53, 54, 55)[:persons], Parish: i % 6, Day: i})
	}
	var marriages []int
	for i := range 52 {
		marriages = append(marriages, i+1)
	}
	wantNumber(t, "readings", 1944, api.OK)(settle.Readings(l, 0))
	last, e := settle.Reading(l, 0, 1943)
	wantList(t, "last reading", append(slices.Clone(marriages), 55, 55, 55, 55, 55, 54, 54, 54), api.OK)(last, e)
	wantList(t, "where", list(-1, 0, 1, 2, 3, 4, 5), api.OK)(settle.Where(l, 1, 4166, 0))
	wantList(t, "where before", list(-1), api.OK)(settle.Where(l, 1, 3998, 0))
	wantNumber(t, "right", api.Maybe, api.OK)(settle.Right(l, 1, 5, 3999, 0))
	wantList(t, "rests on all marriages, and on the certificate", append(marriages, 55), api.OK)(settle.Rests(l, 1, 2, 4166, 0))
	wantList(t, "nothing rests before", nil, api.OK)(settle.Rests(l, 1, 2, 3998, 0))
}
