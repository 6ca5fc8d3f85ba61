package book

import "leazing/api"

// found is strips of one No: of each quire the first one that is whole there; a zero value, if there is none.
type found [api.Quires]api.Strip

// Open puts what is left in order, and returns the records in it.
func Open(b api.Bound) (api.Bound, []api.Record) {
	var log []api.Record
	for _, f := range allFound(b) {
		r, e := Decode(f.mended())
		if e != api.OK || !isLog(append(log, r)) {
			break
		}
		log = append(log, r)
	}
	return Sew(boundOf(log)), log
}

// allFound returns what is found of each No.
func allFound(b api.Bound) [api.MaxRecords]found {
	var all [api.MaxRecords]found
	for i, q := range quires(b) {
		for _, strips := range [][]api.Strip{q.sewn, q.loose} {
			for _, s := range strips {
				if isWhole(i, s) && all[s.No][i] == (api.Strip{}) {
					all[s.No][i] = s
				}
			}
		}
	}
	return all
}

// mended returns the text of the first two strips that can be mended; none, which is the text of no record, if there are no such two.
func (f found) mended() string {
	for i := range f {
		for j := i + 1; j < len(f); j++ {
			if text, e := Mend(i, f[i], j, f[j]); e == api.OK {
				return text
			}
		}
	}
	return ""
}
