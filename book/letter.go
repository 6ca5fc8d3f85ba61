package book

import "leazing/api"

func isLetter(l api.Letter) bool {
	parishes := isParish(l.From) && isParish(l.To) && l.From != l.To && isParish(l.About)
	if !parishes || !isCount(l.Many) || !isCount(l.First) || len(l.Records) > api.MaxCarry {
		return false
	}
	for i, r := range l.Records {
		if CheckRecord(r) != api.OK || r.At != (api.Item{Parish: l.About, No: l.First + i}) {
			return false
		}
	}
	return true
}

func isCount(n int) bool { return within(n, 0, api.MaxRecords) }

// letter returns the letter to a parish about one, from a number on.
func (c *change) letter(to, about, first int) api.Letter {
	l := api.Letter{From: c.Me, To: to, About: about, Many: countOf(c.Log, about), First: first}
	for _, r := range c.Log {
		if r.At.Parish == about && r.At.No >= first && len(l.Records) < api.MaxCarry {
			l.Records = append(l.Records, r)
		}
	}
	return l
}

// Send returns a letter about a parish's records, which are sewn first, so that what is said in it stays true; ErrParish or ErrArg.
func Send(p api.Parish, to, about int) (api.Parish, api.Letter, api.Errno) {
	right := isParish(to) && to != p.Me && isParish(about)
	if e := firstOf(checkParish(p), verdict(right, api.ErrArg)); e != api.OK {
		return api.Parish{}, api.Letter{}, e
	}
	c := changing(p)
	c.sew()
	return c.Parish, c.letter(to, about, countOf(c.Log, about)), api.OK
}

// Receive takes a letter; ErrParish, ErrLetter, or an error of Write.
func Receive(p api.Parish, l api.Letter) (api.Parish, []api.Letter, api.Errno) {
	right := isLetter(l) && l.To == p.Me
	if e := firstOf(checkParish(p), verdict(right, api.ErrLetter)); e != api.OK {
		return api.Parish{}, nil, e
	}
	c := changing(p)
	if e := c.take(l); e != api.OK {
		return api.Parish{}, nil, e
	}
	return c.Parish, c.answers(l), api.OK
}

// take takes what a letter says and carries.
func (c *change) take(l api.Letter) api.Errno {
	for _, r := range l.Records {
		if r.At.No > countOf(c.Log, l.About) {
			continue
		}
		if e := c.write(r); e != api.OK {
			return e
		}
	}
	c.Known[l.From][l.About] = max(c.Known[l.From][l.About], l.Many)
	c.sew()
	return api.OK
}

// answers returns the letter that goes back, if there is one: from the number on up to which both have the same.
func (c *change) answers(l api.Letter) []api.Letter {
	many := countOf(c.Log, l.About)
	if many == l.Many {
		return nil
	}
	return []api.Letter{c.letter(l.From, l.About, min(many, l.Many))}
}
