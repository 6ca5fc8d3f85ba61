package book

import (
	"slices"

	"leazing/api"
)

// change is a parish that is being changed; it shares no memory with the one that was handed in.
type change struct{ api.Parish }

func changing(p api.Parish) *change {
	p.Bound, p.Log = copied(p.Bound), slices.Clone(p.Log)
	return &change{p}
}

func (c *change) write(r api.Record) api.Errno {
	b, log, e := Write(c.Bound, c.Log, r)
	if e == api.OK {
		c.Bound, c.Log = b, log
	}
	return e
}

func (c *change) sew() { c.Bound = Sew(c.Bound) }

func checkParish(p api.Parish) api.Errno {
	right := isParish(p.Me) && CheckBound(p.Bound, p.Log) == api.OK
	for _, known := range p.Known {
		for _, many := range known {
			right = right && within(many, 0, api.MaxRecords)
		}
	}
	return verdict(right, api.ErrParish)
}

// NewParish returns a parish without records; ErrArg.
func NewParish(me int) (api.Parish, api.Errno) {
	if !isParish(me) {
		return api.Parish{}, api.ErrArg
	}
	return api.Parish{Me: me}, api.OK
}

// Note writes a record of a parish's own; ErrParish, ErrRecord or ErrLong.
func Note(p api.Parish, r api.Record) (api.Parish, api.Record, api.Errno) {
	if e := checkParish(p); e != api.OK {
		return api.Parish{}, api.Record{}, e
	}
	c := changing(p)
	r.At = api.Item{Parish: c.Me, No: countOf(c.Log, c.Me)}
	if e := c.write(r); e != api.OK {
		return api.Parish{}, api.Record{}, e
	}
	return c.Parish, r, api.OK
}

// Restart returns a parish whose book was torn; ErrParish.
func Restart(p api.Parish, picks []int) (api.Parish, api.Errno) {
	if e := checkParish(p); e != api.OK {
		return api.Parish{}, e
	}
	b, log := Open(Tear(p.Bound, picks))
	return api.Parish{Me: p.Me, Bound: b, Log: log}, api.OK
}
