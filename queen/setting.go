package queen

import (
	"cmp"
	"slices"

	"leazing/api"
	"leazing/drift"
	"leazing/mill"
	"leazing/relief"
	"leazing/sheaf"
)

// What the commands do that set something up.

// put returns a list that rises by a number, with one element in the place of the one that has its number, or at its place; ErrLong if there would be more than most.
func put[T any](list []T, x T, number func(T) int, most int) ([]T, api.Errno) {
	i, has := slices.BinarySearchFunc(list, x, func(a, b T) int { return cmp.Compare(number(a), number(b)) })
	if has {
		return slices.Replace(slices.Clone(list), i, i+1, x), api.OK
	}
	if len(list) >= most {
		return nil, api.ErrLong
	}
	return slices.Insert(slices.Clone(list), i, x), api.OK
}

// added returns a list with one more element, the last one; ErrLong if there would be more than most.
func added[T any](list []T, x T, most int) ([]T, api.Errno) {
	if len(list) >= most {
		return nil, api.ErrLong
	}
	return append(slices.Clone(list), x), api.OK
}

func (d doing) field() []string {
	n := d.Args
	m := api.Meadow{Field: n[0], Sown: api.Range{Lo: n[1], Hi: n[2]}, Geese: n[3]}
	demand(verdict(isField(m.Field), api.ErrArg))
	demand(sheaf.Check(api.Plot{Sown: m.Sown, Geese: m.Geese}))
	d.setting.Meadows = must(put(d.setting.Meadows, m, func(m api.Meadow) int { return m.Field }, api.MaxFields))
	return done()
}

func (d doing) chain() []string {
	c := api.Chain{Id: d.Args[0], Link: api.Range{Lo: d.Args[1], Hi: d.Args[2]}}
	demand(drift.CheckChain(c))
	ground := &d.setting.Ground
	ground.Chains = must(put(ground.Chains, c, func(c api.Chain) int { return c.Id }, api.MaxChains))
	return done()
}

func (d doing) cell() []string {
	c := api.Cell{Chain: d.Args[0], Links: d.Args[1], Worth: d.Args[2]}
	demand(drift.CheckCell(c))
	ground := &d.setting.Ground
	ground.Cells = must(added(ground.Cells, c, api.MaxCells))
	return done()
}

func (d doing) claim() []string {
	n := d.Args
	c := api.Claim{Family: n[0], Heads: n[1], From: n[2], To: n[3]}
	demand(drift.CheckClaim(c))
	d.setting.Claims = must(added(d.setting.Claims, c, api.MaxClaims))
	return done()
}

func (d doing) yield() []string {
	y := api.Yield{Gallons: api.Range{Lo: d.Args[0], Hi: d.Args[1]}, Toll: d.Args[2]}
	demand(mill.CheckYield(y))
	d.setting.Yield = y
	return done()
}

func (d doing) mill() []string {
	hours := d.Args[0]
	demand(verdict(within(hours, 0, api.MaxTurns), api.ErrArg))
	d.setting.Mill = api.Mill{Hours: hours}
	return done()
}

func (d doing) comer() []string {
	c := api.Comer{Family: d.Args[0], Hours: d.Args[1], Wants: d.Args[2]}
	d.setting.Mill = must(mill.With(d.setting.Mill, c))
	return done()
}

func (d doing) scale() []string {
	s := api.Scale{From: d.Args[0], Bread: d.Args[1]}
	demand(relief.CheckScale(s))
	d.setting.Scales = must(put(d.setting.Scales, s, func(s api.Scale) int { return s.From }, api.MaxScales))
	return done()
}

func (d doing) blank() []string {
	d.setting.Ground, d.setting.Claims, d.setting.Mill = api.Ground{}, nil, api.Mill{}
	return done()
}
