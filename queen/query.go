package queen

import (
	"leazing/api"
	"leazing/bell"
	"leazing/drift"
	"leazing/family"
	"leazing/mill"
	"leazing/relief"
	"leazing/sack"
	"leazing/settle"
	"leazing/sheaf"
)

// What the commands do that ask for something.

// known returns the day as known on which it is asked: the last number, where there is one.
func (d doing) known() int { return d.Args[len(d.Args)-1] }

// plot returns that of the field that the command names; it panics with ErrNone if that was not set up.
func (d doing) plot() api.Plot {
	field := d.Args[1]
	m, has := find(d.setting.Meadows, func(m api.Meadow) bool { return m.Field == field })
	demand(verdict(has, api.ErrNone))
	p := must(Plot(d.book(), field))
	p.Sown, p.Geese = m.Sown, m.Geese
	return p
}

func (d doing) proofs() []api.Proof { return must(Proofs(d.book(), d.known())) }

func (d doing) kin() api.Kin { return must(Kin(d.book())) }

func (d doing) sacks() api.Sacks { return must(Sacks(d.book())) }

func (d doing) relief() api.Relief {
	r := must(Relief(d.book()))
	r.Scales = d.setting.Scales
	return r
}

// asked returns the answer to what is yes, no or maybe.
func asked(n int) []string { return answer(wordFor(n)) }

func (d doing) open() []string { return asked(must(sheaf.Open(d.plot(), d.Args[2], d.known()))) }

func (d doing) clear() []string { return asked(must(sheaf.Clear(d.plot(), d.Args[2], d.known()))) }

func (d doing) stood() []string { return bounds(must(sheaf.Stood(d.plot(), d.Args[2], d.known()))) }

func (d doing) first() []string { return bounds(must(sheaf.First(d.plot(), d.known()))) }

func (d doing) misled() []string { return listed(must(sheaf.Clash(d.plot(), d.known()))) }

func (d doing) settled() []string {
	return listed(must(settle.Where(d.proofs(), d.Args[1], d.Args[2], d.known())))
}

func (d doing) right() []string {
	return asked(must(settle.Right(d.proofs(), d.Args[1], d.Args[2], d.Args[3], d.known())))
}

func (d doing) belong() []string {
	return listed(must(settle.Belong(d.proofs(), d.Args[1], d.Args[2], d.known())))
}

func (d doing) readings() []string { return answer(row(must(settle.Readings(d.proofs(), d.known())))) }

func (d doing) rests() []string {
	return listed(must(settle.Rests(d.proofs(), d.Args[1], d.Args[2], d.Args[3], d.known())))
}

func (d doing) families() []string {
	return listed(must(family.Families(d.kin(), d.Args[1], d.Args[2], d.known())))
}

func (d doing) sure() []string {
	return listed(must(family.Sure(d.kin(), d.Args[1], d.Args[2], d.known())))
}

func (d doing) may() []string {
	return listed(must(family.May(d.kin(), d.Args[1], d.Args[2], d.known())))
}

func (d doing) heads() []string {
	return bounds(must(family.Heads(d.kin(), d.Args[1], d.Args[2], d.known())))
}

// claims returns those of the day that the command names.
func (d doing) claims() []api.Claim {
	return must(drift.Turn(d.setting.Ground, d.setting.Claims, d.Args[0]))
}

func (d doing) share() []string {
	claims := d.claims()
	least := must(drift.Least(d.setting.Ground, claims))
	lines := answer(line("gain", least.Num, least.Den))
	for _, drift := range must(drift.Share(d.setting.Ground, claims)) {
		lines = append(lines, row(drift.From, drift.To))
	}
	return lines
}

// crowded looks for the first crowd itself, since it is unspecified which one the layer returns.
func (d doing) crowded() []string {
	ground, claims := d.setting.Ground, d.setting.Claims
	c := must(drift.Crowded(ground, claims))
	for first := range claims {
		for last := first; last < len(claims); last++ {
			crowd := api.Crowd{First: first, Last: last}
			if drift.CheckCrowd(ground, claims, crowd) == api.OK {
				return answer(row(first, last))
			}
		}
	}
	return answer(row(c.First, c.Last))
}

func (d doing) length() []string {
	between := api.Drift{From: d.Args[0], To: d.Args[1]}
	return bounds(must(drift.Length(d.setting.Ground, between)))
}

func (d doing) grind() []string {
	level, share := must(mill.Level(d.setting.Mill)), must(mill.Share(d.setting.Mill))
	return answer(line("level", level), line(turnsWord, share...))
}

func (d doing) hours() []string { return listed(must(mill.Hours(d.setting.Mill))) }

func (d doing) level() []string { return answer(row(must(mill.Level(d.setting.Mill)))) }

func (d doing) flour() []string {
	bundles := api.Range{Lo: d.Args[0], Hi: d.Args[1]}
	return bounds(must(mill.Flour(d.setting.Yield, bundles)))
}

func (d doing) have() []string {
	spot := api.Spot{Family: d.Args[1], Day: d.Args[2]}
	return bounds(must(sack.Have(d.sacks(), spot, d.known())))
}

func (d doing) went() []string { return bounds(must(sack.Went(d.sacks(), d.Args[1], d.known()))) }

func (d doing) total() []string { return bounds(must(sack.Total(d.sacks(), d.Args[1], d.known()))) }

func (d doing) cert() []string { return bounds(must(sack.Rests(d.sacks(), d.Args[1], d.known()))) }

func (d doing) fence() []string {
	f := must(sack.Fence(d.sacks(), d.known()))
	var numbers []int
	for _, s := range f.Spots {
		numbers = append(numbers, s.Family, s.Day)
	}
	return answer("contradiction", line(fenceWord+" "+wordFor(truth(f.Over)), numbers...))
}

func (d doing) clash() []string { return listed(must(sack.Clash(d.sacks(), d.known()))) }

func (d doing) bread() []string {
	return bounds(must(relief.Bread(d.relief(), d.Args[1], d.Args[2], d.known())))
}

func (d doing) account() []string {
	a := must(relief.Stands(d.relief(), d.Args[1], d.known()))
	return answer(row(a.Bread, a.Owed))
}

func (d doing) who() []string { return listed(must(bell.Who(d.watches[:], d.Args[0]))) }

func (d doing) missing() []string { return listed(must(bell.Missing(d.watch(), d.Args[1]))) }

func (d doing) records() []string {
	var lines []string
	for _, p := range d.parishes {
		lines = append(lines, line("records", len(p.Log)))
	}
	return lines
}
