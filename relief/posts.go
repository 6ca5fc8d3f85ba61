package relief

import (
	"cmp"
	"iter"
	"slices"
	"sync"

	"leazing/api"
)

// Posts returns the postings of days, rising by day and then by family; ErrRelief or ErrDay.
func Posts(r api.Relief, days []int) ([]api.Posting, api.Errno) {
	if e := firstOf(Check(r), checkDays(days)); e != api.OK {
		return nil, e
	}
	return posted(r, days), api.OK
}

// CheckPosts returns OK for the postings of days; otherwise ErrRelief, ErrDay or ErrPosts.
func CheckPosts(r api.Relief, days []int, l []api.Posting) api.Errno {
	if e := firstOf(Check(r), checkDays(days)); e != api.OK {
		return e
	}
	return verdict(slices.Equal(l, posted(r, days)), api.ErrPosts)
}

// Balance returns the sums of all postings of a family; ErrRelief, ErrArg or ErrDay.
func Balance(r api.Relief, days []int, family int) (api.Account, api.Errno) {
	if e := firstOf(Check(r), checkFamily(family), checkDays(days)); e != api.OK {
		return api.Account{}, e
	}
	var sum api.Account
	for p := range postings(r, days, family) {
		sum.Bread += p.Bread
		sum.Owed += p.Owed
	}
	return sum, api.OK
}

// Moved returns the families, rising, whose account is another one without the entry that has a source; ErrRelief, ErrDay, or ErrNone if no entry has it. An account rests on nothing but the entries that name its family.
func Moved(r api.Relief, source, known int) ([]int, api.Errno) {
	if e := firstOf(Check(r), checkDay(known)); e != api.OK {
		return nil, e
	}
	n, has := noteOf(r, source)
	if !has {
		return nil, api.ErrNone
	}
	less := filtered(r, func(other note) bool { return other.source != source })
	if accountOf(less, n.family, known) == accountOf(r, n.family, known) {
		return nil, api.OK
	}
	return []int{n.family}, api.OK
}

// postings yields the postings of a family, in the order of their days.
func postings(r api.Relief, days []int, family int) iter.Seq[api.Posting] {
	return func(yield func(api.Posting) bool) {
		var before api.Account
		for _, day := range days {
			now := accountOf(r, family, day)
			if now == before {
				continue
			}
			posting := api.Posting{Day: day, Family: family, Bread: now.Bread - before.Bread, Owed: now.Owed - before.Owed}
			if !yield(posting) {
				return
			}
			before = now
		}
	}
}

// posted returns the postings of all families, which are made at one time. Their channel has room for all of them, so that nobody waits to send.
func posted(r api.Relief, days []int) []api.Posting {
	families := familiesOf(r, all)
	sent := make(chan api.Posting, len(families)*len(days))
	var workers sync.WaitGroup
	for _, family := range families {
		workers.Add(1)
		go func() {
			defer workers.Done()
			for p := range postings(r, days, family) {
				sent <- p
			}
		}()
	}
	workers.Wait()
	close(sent)
	var list []api.Posting
	for p := range sent {
		list = append(list, p)
	}
	slices.SortFunc(list, comparePostings)
	return list
}

func comparePostings(a, b api.Posting) int {
	return cmp.Or(cmp.Compare(a.Day, b.Day), cmp.Compare(a.Family, b.Family))
}
