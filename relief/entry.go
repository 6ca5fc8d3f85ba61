package relief

import (
	"iter"
	"slices"

	"leazing/api"
)

// entry is a need, a crop, a finding, or what was made good.
type entry interface {
	valid() bool
	note() note
}

type (
	need    api.Need
	crop    api.Crop
	finding api.Finding
	made    api.Made
)

// note is what entries of all kinds have in common.
type note struct{ source, family, known, until int }

func (n need) note() note { return note{n.Source, n.Family, n.Known, n.Until} }

func (c crop) note() note { return note{c.Source, c.Family, c.Known, c.Until} }

func (f finding) note() note { return note{f.Source, f.Family, f.Known, f.Until} }

func (m made) note() note { return note{m.Source, m.Family, m.Known, m.Until} }

// counts reports whether what has the note counts, as known on a day.
func (n note) counts(known int) bool {
	return n.known <= known && (n.until == 0 || n.until > known)
}

// entries yields all entries of a relief, kind by kind, each kind in order.
func entries(r api.Relief) iter.Seq[entry] {
	return func(yield func(entry) bool) {
		for _, n := range r.Needs {
			if !yield(need(n)) {
				return
			}
		}
		for _, c := range r.Crops {
			if !yield(crop(c)) {
				return
			}
		}
		for _, f := range r.Findings {
			if !yield(finding(f)) {
				return
			}
		}
		for _, m := range r.Mades {
			if !yield(made(m)) {
				return
			}
		}
	}
}

// filtered returns the relief that has only some of the entries.
func filtered(r api.Relief, keeps func(note) bool) api.Relief {
	kept := api.Relief{Scales: slices.Clone(r.Scales)}
	for e := range entries(r) {
		if !keeps(e.note()) {
			continue
		}
		switch e := e.(type) {
		case need:
			kept.Needs = append(kept.Needs, api.Need(e))
		case crop:
			kept.Crops = append(kept.Crops, api.Crop(e))
		case finding:
			kept.Findings = append(kept.Findings, api.Finding(e))
		case made:
			kept.Mades = append(kept.Mades, api.Made(e))
		}
	}
	return kept
}

// noteOf returns the note of the entry that has a source; false, if there is none.
func noteOf(r api.Relief, source int) (note, bool) {
	for e := range entries(r) {
		if n := e.note(); n.source == source {
			return n, true
		}
	}
	return note{}, false
}

// familiesOf returns the families that some entries name, rising, each once.
func familiesOf(r api.Relief, chosen func(note) bool) []int {
	var families []int
	for e := range entries(r) {
		if n := e.note(); chosen(n) {
			families = append(families, n.family)
		}
	}
	return rising(families)
}

// rising sorts a list of numbers, and leaves each of them once.
func rising(numbers []int) []int {
	slices.Sort(numbers)
	return slices.Compact(numbers)
}

// all chooses each entry.
func all(note) bool { return true }
