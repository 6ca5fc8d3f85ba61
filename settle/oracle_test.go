package settle_test

import (
	"math/rand"
	"slices"

	"leazing/api"
)

// This file finds readings by trying all of them, and titles by asking back, straight from the chapter's definitions, for few proofs.

func counting(l []api.Proof, day int) []api.Proof {
	var some []api.Proof
	for _, p := range l {
		if p.Known <= day && (p.Until == 0 || day < p.Until) {
			some = append(some, p)
		}
	}
	return some
}

func sourcesOf(l []api.Proof) []int {
	list := []int{}
	for _, p := range l {
		list = append(list, p.Source)
	}
	return list
}

func lessOne(l []api.Proof, source int) []api.Proof {
	var some []api.Proof
	for _, p := range l {
		if p.Source != source {
			some = append(some, p)
		}
	}
	return some
}

func has(kind int, kinds ...int) bool { return slices.Contains(kinds, kind) }

func covers(p api.Proof, day int) bool { return p.Day <= day && day <= p.Through }

// oneWay tells whether two proofs of one person are at odds, if p has the role that the chapter names first.
func oneWay(p, q api.Proof) bool {
	serves := has(q.Kind, api.PfService, api.PfBound)
	switch p.Kind {
	case api.PfBirth:
		return q.Kind == api.PfBirth || q.Day < p.Day
	case api.PfService, api.PfBound:
		if !serves {
			return false
		}
		for day := p.Day; day <= p.Through; day++ {
			if covers(q, day) {
				return true
			}
		}
	case api.PfExamined:
		return serves && p.Parish != q.Parish && covers(q, p.Day)
	}
	return false
}

// agrees tells whether one person for each proof is a reading of them.
func agrees(l []api.Proof, reading []int) bool {
	if len(l) != len(reading) {
		return false
	}
	for i, p := range l {
		if !slices.Contains(p.Persons, reading[i]) || p.Kind == api.PfMarried && reading[i] == p.Other {
			return false
		}
		for j, q := range l {
			if i != j && reading[i] == reading[j] && oneWay(p, q) {
				return false
			}
		}
	}
	return true
}

// triedOf returns all choices of a person for each proof.
func triedOf(l []api.Proof) [][]int {
	tried := [][]int{{}}
	for _, p := range l {
		var longer [][]int
		for _, one := range tried {
			for _, person := range p.Persons {
				longer = append(longer, append(slices.Clone(one), person))
			}
		}
		tried = longer
	}
	return tried
}

// allReadings returns the readings of proofs that count, in order.
func allReadings(l []api.Proof) [][]int {
	return slices.DeleteFunc(triedOf(l), func(reading []int) bool { return !agrees(l, reading) })
}

// contradict tells whether proofs contradict each other, while without any one of them the others do not.
func contradict(l []api.Proof) bool {
	for _, p := range l {
		if len(allReadings(lessOne(l, p.Source))) == 0 {
			return false
		}
	}
	return len(allReadings(l)) == 0
}

func certified(l []api.Proof, reading []int, person, day int) bool {
	for i, p := range l {
		if p.Kind == api.PfCertify && reading[i] == person && p.Day <= day {
			return true
		}
	}
	return false
}

func titlesOf(l []api.Proof, reading []int, person int) []api.Title {
	return titlesBy(l, reading, person, 5000)
}

// titlesBy returns the titles that begin on a day, or before it.
func titlesBy(l []api.Proof, reading []int, person, day int) []api.Title {
	var titles []api.Title
	for i, p := range l {
		if reading[i] != person {
			continue
		}
		title, days := api.Title{Day: p.Day, Parish: p.Parish, Source: p.Source}, p.Through-p.Day+1
		gives := false
		switch p.Kind {
		case api.PfBirth, api.PfRemoved, api.PfCertify:
			gives = true
		case api.PfService, api.PfRent:
			title.Day += 365
			gives = days >= 365 && !certified(l, reading, person, p.Day)
		case api.PfBound:
			title.Day += 40
			gives = days >= 40 && !certified(l, reading, person, p.Day)
		case api.PfMarried:
			if p.Day > 0 && p.Day <= day {
				title.Parish = settledOf(l, reading, p.Other, p.Day-1)
				gives = title.Parish != -1
			}
		}
		if gives && title.Day <= day {
			titles = append(titles, title)
		}
	}
	slices.SortFunc(titles, func(a, b api.Title) int {
		if a.Day != b.Day {
			return a.Day - b.Day
		}
		return a.Source - b.Source
	})
	return titles
}

func settledOf(l []api.Proof, reading []int, person, day int) int {
	titles := titlesBy(l, reading, person, day)
	if len(titles) == 0 {
		return -1
	}
	return titles[len(titles)-1].Parish
}

// placesOf returns where a person is settled by some of the readings, rising.
func placesOf(l []api.Proof, readings [][]int, person, day int) []int {
	var places []int
	for _, reading := range readings {
		places = append(places, settledOf(l, reading, person, day))
	}
	slices.Sort(places)
	return slices.Compact(places)
}

func answerOf(places []int, parish int) int {
	switch {
	case !slices.Contains(places, parish):
		return api.No
	case len(places) == 1:
		return api.Yes
	}
	return api.Maybe
}

func personsOf(l []api.Proof) []int {
	var persons []int
	for _, p := range l {
		persons = append(persons, p.Persons...)
		if p.Kind == api.PfMarried {
			persons = append(persons, p.Other)
		}
	}
	slices.Sort(persons)
	return slices.Compact(persons)
}

const (
	lastKnown  = 5 // of random proofs
	lastPerson = 5
	parishes   = 3
)

// daysTried are days of random proofs, those on which they settle, and those beside them.
var daysTried = []int{0, 1, 9, 10, 39, 40, 41, 49, 50, 51, 99, 100, 365, 366, 374, 375, 376, 404, 405, 406, 414, 415, 416, 440, 441, 464, 465, 466, 505, 800, 4165, 4166}

// randomProofs returns lists of few proofs: always the same ones.
func randomProofs(n int) [][]api.Proof {
	r := rand.New(rand.NewSource(2))
	lists := make([][]api.Proof, n)
	for i := range lists {
		lists[i] = randomList(r, r.Intn(9))
	}
	return lists
}

func randomList(r *rand.Rand, n int) []api.Proof {
	source := 0
	var l []api.Proof
	for range n {
		source += 1 + r.Intn(3)
		l = append(l, randomProof(r, source))
	}
	return l
}

func randomProof(r *rand.Rand, source int) api.Proof {
	days := []int{0, 1, 10, 40, 41, 50, 51, 100, 375, 400, 415, 465}
	terms := []int{0, 38, 39, 40, 90, 363, 364, 364, 365, 800}
	p := api.Proof{Source: source, Kind: 1 + r.Intn(8), Day: days[r.Intn(len(days))], Parish: r.Intn(parishes)}
	persons := r.Perm(lastPerson)
	for _, person := range persons[:min(1+r.Intn(4), 1+r.Intn(3))] {
		p.Persons = append(p.Persons, person+1)
	}
	slices.Sort(p.Persons)
	switch p.Kind {
	case api.PfMarried:
		p.Parish, p.Other = 0, 1+r.Intn(lastPerson)
	case api.PfService, api.PfRent, api.PfBound:
		p.Through = p.Day + terms[r.Intn(len(terms))]
	}
	p.Known = max(0, r.Intn(lastKnown+3)-3)
	if r.Intn(4) == 0 {
		p.Until = p.Known + 1 + r.Intn(3)
	}
	return p
}

// cloned returns proofs that share no memory with l.
func cloned(l []api.Proof) []api.Proof {
	l = slices.Clone(l)
	for i := range l {
		l[i].Persons = slices.Clone(l[i].Persons)
	}
	return l
}

func equalProofs(l, k []api.Proof) bool {
	return slices.EqualFunc(l, k, func(p, q api.Proof) bool {
		same := slices.Equal(p.Persons, q.Persons)
		p.Persons, q.Persons = nil, nil
		return same && p.Source == q.Source && p.Kind == q.Kind && p.Other == q.Other && p.Parish == q.Parish && p.Day == q.Day && p.Through == q.Through && p.Known == q.Known && p.Until == q.Until
	})
}
