package queen

import (
	"leazing/api"
	"leazing/bell"
)

// What the commands do with watches, and with peals.

// watch returns that of the parish that the command names.
func (d doing) watch() api.Watch { return d.watches[d.Args[0]] }

// keep keeps it as it is then, if there is no error.
func (d doing) keep(w api.Watch, e api.Errno) []string {
	d.watches[d.Args[0]] = must(w, e)
	return done()
}

func (d doing) want() []string { return d.keep(bell.Want(d.watch(), d.Args[1])) }

func (d doing) ring() []string { return d.keep(bell.Ring(d.watch(), d.Args[1])) }

func (d doing) shut() []string { return d.keep(bell.Shut(d.watch(), d.Args[1])) }

func (d doing) serve() []string { return d.keep(bell.Serve(d.watch())) }

func (d doing) bind() []string { return d.keep(bell.Bind(d.watch())) }

func (d doing) tear() []string { return d.keep(bell.Tear(d.watch(), d.Args[1])) }

func (d doing) recopy() []string { return d.keep(bell.Recopy(d.watch())) }

func (d doing) pealsUnderWay() []string { return answer(line("peals", len(d.peals))) }

func (d doing) tell() []string {
	p := must(bell.Tell(d.watch(), d.Args[1]))
	d.peals = must(added(d.peals, p, api.MaxPeals))
	return d.pealsUnderWay()
}

func (d doing) hear() []string {
	p := d.missPeal()
	d.watches[p.To] = must(bell.Hear(d.watches[p.To], p))
	return d.pealsUnderWay()
}

// missPeal takes a peal from those under way.
func (d doing) missPeal() api.Peal {
	p, others := taken(d.peals, pick(d.peals, d.Args[0]))
	d.peals = others
	return p
}

func (d doing) miss() []string {
	d.missPeal()
	return d.pealsUnderWay()
}

func (d doing) again() []string {
	p := d.peals[pick(d.peals, d.Args[0])]
	d.peals = must(added(d.peals, p, api.MaxPeals))
	return d.pealsUnderWay()
}
