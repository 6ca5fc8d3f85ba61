package queen

import (
	"slices"

	"leazing/api"
	"leazing/book"
)

// What the commands do that write records.

// home returns the parish that the command names.
func (d doing) home() api.Parish { return d.parishes[d.Args[0]] }

// book returns that of its records.
func (d doing) book() api.Book { return must(book.Sorted(d.home().Log)) }

// note notes a record, if what it would say is right.
func (d doing) note() []string {
	n := d.Args
	have := must(book.Have(d.book()))
	r := api.Record{
		At:   api.Item{Parish: n[0], No: have[n[0]]},
		Kind: d.Kind - commandsFrom, Day: n[1], Known: n[2], Text: row(n[beforeText:]...),
	}
	demand(entry{Record: r, source: sourceOf(r.At), numbers: n[beforeText:]}.check())
	return d.write(r)
}

// withdraw notes a record that withdraws another one, once.
func (d doing) withdraw() []string {
	of := api.Item{Parish: d.Args[0], No: d.Args[2]}
	log := d.home().Log
	r, has := find(log, func(r api.Record) bool { return r.At == of })
	demand(verdict(has, api.ErrNone))
	isWithdrawn := slices.ContainsFunc(log, func(r api.Record) bool { return withdraws(r, of) })
	demand(verdict(r.Kind != api.RecWithdraw && !isWithdrawn, api.ErrArg))
	return d.write(api.Record{Kind: api.RecWithdraw, Known: d.Args[1], Of: of})
}

// write writes a record of the parish's own.
func (d doing) write(r api.Record) []string {
	p, noted, e := book.Note(d.home(), r)
	demand(e)
	d.parishes[d.Args[0]] = p
	return answer(line("record", noted.At.Parish, noted.At.No))
}
