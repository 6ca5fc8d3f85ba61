package book

import (
	"cmp"
	"slices"

	"leazing/api"
)

// isLog reports whether records were written one after the other.
func isLog(l []api.Record) bool {
	if len(l) > api.MaxRecords {
		return false
	}
	var have [api.MaxParishes]int
	for _, r := range l {
		if CheckRecord(r) != api.OK || r.At.No != have[r.At.Parish] {
			return false
		}
		have[r.At.Parish]++
	}
	return true
}

// countOf returns how many of some records a parish has.
func countOf(l []api.Record, parish int) int {
	count := 0
	for _, r := range l {
		if r.At.Parish == parish {
			count++
		}
	}
	return count
}

func compareItems(a, b api.Record) int {
	return cmp.Or(cmp.Compare(a.At.Parish, b.At.Parish), cmp.Compare(a.At.No, b.At.No))
}

// sortedBook returns the book of some records.
func sortedBook(l []api.Record) api.Book {
	sorted := slices.Clone(l)
	slices.SortFunc(sorted, compareItems)
	return api.Book{Records: sorted}
}

// Check returns OK for a valid book, and otherwise ErrBook. A valid book is a log, in the order of its items.
func Check(b api.Book) api.Errno {
	return verdict(isLog(b.Records) && slices.IsSortedFunc(b.Records, compareItems), api.ErrBook)
}

// Sorted returns the book of a log; ErrBook if it is none.
func Sorted(l []api.Record) (api.Book, api.Errno) {
	if !isLog(l) {
		return api.Book{}, api.ErrBook
	}
	return sortedBook(l), api.OK
}

// Add returns the book with a record; ErrBook, ErrRecord, ErrDiffer, ErrGap or ErrLong.
func Add(b api.Book, r api.Record) (api.Book, api.Errno) {
	if e := firstOf(Check(b), CheckRecord(r)); e != api.OK {
		return api.Book{}, e
	}
	has, differs := hasRecord(b.Records, r)
	if has {
		return sortedBook(b.Records), api.OK
	}
	gap := verdict(r.At.No <= countOf(b.Records, r.At.Parish), api.ErrGap)
	room := verdict(len(b.Records) < api.MaxRecords, api.ErrLong)
	if e := firstOf(differs, gap, room); e != api.OK {
		return api.Book{}, e
	}
	return sortedBook(append(slices.Clone(b.Records), r)), api.OK
}

// hasRecord reports whether a record is one of a list; ErrDiffer if another one has its item.
func hasRecord(l []api.Record, r api.Record) (bool, api.Errno) {
	for _, x := range l {
		if x.At == r.At {
			return x == r, verdict(x == r, api.ErrDiffer)
		}
	}
	return false, api.OK
}

// Join returns the book with the records of two; ErrBook, ErrDiffer or ErrLong.
func Join(a, b api.Book) (api.Book, api.Errno) {
	if e := firstOf(Check(a), Check(b)); e != api.OK {
		return api.Book{}, e
	}
	all := slices.Clone(a.Records)
	for _, r := range b.Records {
		has, e := hasRecord(a.Records, r)
		if e != api.OK {
			return api.Book{}, e
		}
		if !has {
			all = append(all, r)
		}
	}
	if len(all) > api.MaxRecords {
		return api.Book{}, api.ErrLong
	}
	return sortedBook(all), api.OK
}

// Have returns how many records of each parish a book has; ErrBook.
func Have(b api.Book) ([api.MaxParishes]int, api.Errno) {
	var have [api.MaxParishes]int
	if e := Check(b); e != api.OK {
		return have, e
	}
	for parish := range have {
		have[parish] = countOf(b.Records, parish)
	}
	return have, api.OK
}
