package bell

import "leazing/api"

// page is what the book of a parish says of one of its fields.
type page struct {
	api.Border
	me    int
	open  bool
	wants int
	asked [api.MaxParishes]int  // the numbers of the wants of the others
	tally [api.MaxParishes]int  // the numbers of the tallies with them
	fresh [api.MaxParishes]bool // whether they were changed after the last wants
}

// A stroke is taken by one of the next four methods: if it may stand after those before it, they change what the page says, and otherwise they return false.

func (p *page) takeTally(s api.Stroke) bool {
	if !p.isOther(s.Other) || s.No <= p.tally[s.Other] || p.open {
		return false
	}
	p.tally[s.Other], p.fresh[s.Other] = s.No, true
	return true
}

func (p *page) takeWants(s api.Stroke) bool {
	if s.No <= p.wants {
		return false
	}
	p.wants, p.fresh = s.No, [api.MaxParishes]bool{}
	return true
}

func (p *page) takeAsked(s api.Stroke) bool {
	if !p.isOther(s.Other) || s.No <= p.asked[s.Other] {
		return false
	}
	p.asked[s.Other] = s.No
	return true
}

func (p *page) takeBell(s api.Stroke) bool {
	rings := s.No == opens
	if rings == p.open || rings && !p.holdsAll() {
		return false
	}
	p.open = rings
	return true
}

func (p *page) isOther(parish int) bool { return shares(p.Border, parish) && parish != p.me }

// others yields the other parishes of the field, rising.
func (p *page) others(yield func(other int) bool) {
	for other := range api.MaxParishes {
		if p.isOther(other) && !yield(other) {
			return
		}
	}
}

// which returns the other parishes of which something holds, rising.
func (p *page) which(holds func(other int) bool) []int {
	var list []int
	for other := range p.others {
		if holds(other) {
			list = append(list, other)
		}
	}
	return list
}

func isOdd(n int) bool { return n%2 == 1 }

// wanted reports whether the parish wants to open the field.
func (p *page) wanted() bool { return isOdd(p.wants) }

// asks reports whether another parish wants to.
func (p *page) asks(other int) bool { return isOdd(p.asked[other]) }

// comes reports whether a tally that has a number is here.
func (p *page) comes(other, no int) bool { return isOdd(no) == (other < p.me) }

func (p *page) holds(other int) bool { return p.comes(other, p.tally[other]) }

func (p *page) lacks(other int) bool { return !p.holds(other) }

func (p *page) holdsAll() bool { return len(p.which(p.lacks)) == 0 }

// clean reports whether a tally came here for what the parish still wants.
func (p *page) clean(other int) bool { return p.holds(other) && p.wanted() && p.fresh[other] }

// gives reports whether a tally has to be given to another parish.
func (p *page) gives(other int) bool {
	free := !p.open && p.holds(other) && !p.clean(other)
	return free && p.asks(other) && p.tally[other] < api.MaxTally
}
