package relief_test

import (
	"math/rand"
	"runtime"
	"slices"
	"sync"
	"testing"
	"time"

	"leazing/api"
	"leazing/relief"
)

// P7.1 and P7.4: accounts, and what is posted.

// TestAccounts: P7.1: accounts of reliefs up to the limits.
func TestAccounts(t *testing.T) {
	check := func(r *rand.Rand, of api.Relief) {
		for _, known := range list(0, 4165, 4166, day(t, r, of), day(t, r, of)) {
			for _, family := range someFamilies(of) {
				x := stands(of, family, known)
				want(t, of, x, api.OK)(relief.Stands(of, family, known))
				want(t, of, x.Owed, api.OK)(relief.Owed(of, family, known))
			}
		}
	}
	reliefs(20, 200, small, check)
	reliefs(21, 200, dense, check)
	reliefs(22, 10, great, check)
}

// TestSumOfBread: P7.1: an account has the greatest Bread of each week, up to the one that has the day.
func TestSumOfBread(t *testing.T) {
	check := func(r *rand.Rand, of api.Relief) {
		known := min(day(t, r, of), 7*r.Intn(596))
		for _, family := range named(of)[:min(2, len(named(of)))] {
			bread := 0
			for week := range known/7 + 1 {
				bread += must[api.Range](t, of)(relief.Bread(of, family, week, known)).Hi
			}
			owed := must[int](t, of)(relief.Owed(of, family, known))
			want(t, of, account(bread, owed), api.OK)(relief.Stands(of, family, known))
		}
	}
	reliefs(23, 200, small, check)
	reliefs(24, 50, dense, check)
	reliefs(25, 5, great, check)
}

// TestPosts: P7.1 and P7.4: what is posted, and that it adds up.
func TestPosts(t *testing.T) {
	posted, less, lessOwed := 0, 0, 0
	check := func(r *rand.Rand, of api.Relief) {
		days := someDays(t, r, of)
		l := postsOf(of, days)
		wantList(t, of, l, api.OK)(relief.Posts(of, days))
		wantError(t, of, api.OK, relief.CheckPosts(of, days, l))
		for i, p := range l {
			if p.Bread == 0 && p.Owed == 0 {
				t.Errorf("%+v: %+v changes nothing", of, p)
			}
			if i > 0 && (l[i-1].Day > p.Day || l[i-1].Day == p.Day && l[i-1].Family >= p.Family) {
				t.Errorf("%+v: %+v comes after %+v", of, p, l[i-1])
			}
			posted++
			if p.Bread < 0 {
				less++
			}
			if p.Owed < 0 {
				lessOwed++
			}
		}
		for _, family := range someFamilies(of) {
			var sum api.Account
			for _, p := range must[[]api.Posting](t, of)(relief.Posts(of, days)) {
				if p.Family == family {
					sum = account(sum.Bread+p.Bread, sum.Owed+p.Owed)
				}
			}
			want(t, of, sum, api.OK)(relief.Balance(of, days, family))
			if n := len(days); n > 0 {
				want(t, of, sum, api.OK)(relief.Stands(of, family, days[n-1]))
			}
		}
	}
	reliefs(26, 500, small, check)
	reliefs(27, 200, dense, check)
	reliefs(28, 10, great, check)
	if posted < 2000 || min(less, lessOwed) < 50 {
		t.Error("posted:", posted, "less bread:", less, "less owed:", lessOwed)
	}
}

// changed calls try with lists of postings that are about one: others, and maybe the same.
func changed(r *rand.Rand, l []api.Posting, try func(other []api.Posting)) {
	try(nil)
	for i, p := range l {
		change := func(to api.Posting) {
			other := slices.Clone(l)
			other[i] = to
			try(other)
		}
		by := 1 - 2*r.Intn(2)
		change(post(p.Day+by, p.Family, p.Bread, p.Owed))
		change(post(p.Day, p.Family+by, p.Bread, p.Owed))
		change(post(p.Day, p.Family, p.Bread+by, p.Owed))
		change(post(p.Day, p.Family, p.Bread, p.Owed+by))
		change(post(p.Day, p.Family, p.Owed, p.Bread))
		change(post(p.Day, p.Family, -p.Bread, -p.Owed))
		change(l[r.Intn(len(l))])
		try(slices.Delete(slices.Clone(l), i, i+1))
		try(slices.Insert(slices.Clone(l), i, p))
		try(slices.Insert(slices.Clone(l), i, post(p.Day, p.Family, 0, 0)))
		try(slices.Insert(slices.Clone(l), i, api.Posting{}))
		split := slices.Insert(slices.Clone(l), i, post(p.Day, p.Family, 1, 0))
		split[i+1].Bread--
		try(split)
		if i > 0 {
			other := slices.Clone(l)
			other[i-1], other[i] = l[i], l[i-1]
			try(other)
			other[i-1], other[i] = l[i-1], post(p.Day, p.Family, p.Bread+l[i-1].Bread, p.Owed+l[i-1].Owed)
			try(slices.Delete(other, i-1, i))
		}
		try(l[:i])
		try(l[i:])
	}
	try(append(slices.Clone(l), post(4166, 99, 1, 0)))
	try(append(slices.Clone(l), api.Posting{}))
}

// TestCheckPosts: P7.1 and P7.4: postings that the package would not return are refused, but for those that are the same.
func TestCheckPosts(t *testing.T) {
	accepted, refused := 0, 0
	check := func(r *rand.Rand, of api.Relief) {
		days := someDays(t, r, of)
		l := postsOf(of, days)
		changed(r, l, func(other []api.Posting) {
			if slices.Equal(l, other) {
				accepted++
				wantError(t, other, api.OK, relief.CheckPosts(of, days, other))
			} else {
				refused++
				wantError(t, other, api.ErrPosts, relief.CheckPosts(of, days, other))
			}
		})
		wantError(t, of, verdict(len(l) == 0, api.ErrPosts), relief.CheckPosts(of, days, []api.Posting{}))
		wantError(t, of, verdict(len(l) == 0, api.ErrPosts), relief.CheckPosts(of, nil, l))
	}
	reliefs(29, 200, small, check)
	reliefs(30, 10, dense, check)
	if accepted < 50 || refused < 3000 {
		t.Error("accepted:", accepted, "refused:", refused)
	}
}

// TestDaysOfPosts: which lists are days.
func TestDaysOfPosts(t *testing.T) {
	r := example()
	edges(0, 4166, func(n int, valid bool) {
		checkDays(t, list(n), valid)
		checkDays(t, list(0, n), valid && n > 0)
		checkDays(t, list(n, 4166), valid && n < 4166)
		checkDays(t, list(15, 25, n), valid && n > 25)
	})
	for n := range 15 {
		days := numbers(4166-n+1, 4166)
		checkDays(t, days, n <= 12)
		days = append(list(0), days...)
		checkDays(t, days, n <= 11)
		if n >= 2 {
			slices.Reverse(days)
			checkDays(t, days, false)
		}
	}
	checkDays(t, list(15, 15), false)
	checkDays(t, list(15, 20, 15), false)
	checkDays(t, list(15, 25, 25, 30), false)
	checkDays(t, nil, true)
	wantList(t, "the first day", postsOf(r, list(0)), api.OK)(relief.Posts(r, list(0)))
	wantList(t, "twelve days", []api.Posting{post(14, 7, 12, 0), post(15, 7, -10, 0), post(21, 7, 15, 0), post(21, 8, 5, 0), post(25, 7, -6, 0)}, api.OK)(relief.Posts(r, list(0, 1, 2, 13, 14, 15, 20, 21, 22, 25, 26, 27)))
	wantList(t, "the first and the last day", []api.Posting{post(4166, 7, 27, 2), post(4166, 8, 5, 0)}, api.OK)(relief.Posts(r, list(0, 4166)))
}

// checkDays wants a list to be days, or not.
func checkDays(t *testing.T, days []int, valid bool) {
	t.Helper()
	r := example()
	posts, balance := []api.Posting(nil), api.Account{}
	if valid {
		posts = postsOf(r, days)
		if n := len(days); n > 0 {
			balance = stands(r, 7, days[n-1])
		}
	}
	wantList(t, days, posts, verdict(valid, api.ErrDay))(relief.Posts(r, days))
	wantError(t, days, verdict(valid, api.ErrDay), relief.CheckPosts(r, days, posts))
	want(t, days, balance, verdict(valid, api.ErrDay))(relief.Balance(r, days, 7))
}

// TestMovedOracle: P7.1: whose accounts an entry moves.
func TestMovedOracle(t *testing.T) {
	moved, still, none := 0, 0, 0
	check := func(r *rand.Rand, of api.Relief) {
		known := day(t, r, of)
		for _, source := range append(numbers(0, 10), -1, r.Intn(400), 99999, 100000) {
			less := without(of, source)
			if same(of, less) {
				wantList(t, of, list(), api.ErrNone)(relief.Moved(of, source, known))
				none++
				continue
			}
			var families []int
			for _, family := range named(of) {
				if stands(of, family, known) != stands(less, family, known) {
					families = append(families, family)
				}
			}
			wantList(t, of, families, api.OK)(relief.Moved(of, source, known))
			if len(families) > 0 {
				moved++
			} else {
				still++
			}
		}
	}
	reliefs(31, 500, small, check)
	reliefs(32, 50, dense, check)
	reliefs(33, 2, great, check)
	if min(moved, still, none) < 300 {
		t.Error("moved:", moved, "still:", still, "none:", none)
	}
}

// TestMovedBy: each kind of entry moves an account, or none.
func TestMovedBy(t *testing.T) {
	r := example()
	for source, families := range map[int][]int{1: {7}, 2: {7}, 3: {7}, 4: {8}, 11: {7}, 12: {7}, 21: {7}, 31: {7}} {
		wantList(t, source, families, api.OK)(relief.Moved(r, source, 32))
	}
	for source, families := range map[int][]int{1: {7}, 2: nil, 3: nil, 4: nil, 11: {7}, 12: nil, 21: nil, 31: nil} {
		wantList(t, source, families, api.OK)(relief.Moved(r, source, 20))
	}
	r.Findings = append(r.Findings, api.Finding{Source: 22, Family: 7, From: 3, To: 4, Known: 30})
	for source, families := range map[int][]int{21: nil, 22: nil, 12: {7}} {
		wantList(t, "two findings", families, api.OK)(relief.Moved(r, source, 32))
	}
	r.Mades[0].Gallons = 7
	r.Mades = append(r.Mades, api.Made{Source: 32, Family: 7, Gallons: 6, Known: 32})
	for source, families := range map[int][]int{31: nil, 32: nil} {
		wantList(t, "more made good than is owed", families, api.OK)(relief.Moved(r, source, 32))
	}
}

// TestOrderOfWork: postings are the same however many workers there are at one time, and when several calls are under way.
func TestOrderOfWork(t *testing.T) {
	r := longest(60)
	r.Scales, r.Findings = []api.Scale{{Bread: 9}}, r.Findings[:30]
	for i := range 60 {
		r.Needs[i].Week, r.Needs[i].Heads, r.Crops[i].Week, r.Crops[i].Known = i%7, 20, i%7, i
	}
	days := list(0, 6, 7, 14, 20, 21, 28, 35, 42, 49, 60, 4166)
	wanted := postsOf(r, days)
	if len(wanted) < 80 {
		t.Error("postings:", len(wanted))
	}
	before := runtime.NumGoroutine()
	for _, n := range list(1, 2, 8, 64) {
		old := runtime.GOMAXPROCS(n)
		var calls sync.WaitGroup
		for range 8 {
			calls.Go(func() {
				for range 5 {
					wantList(t, n, wanted, api.OK)(relief.Posts(r, days))
					wantError(t, n, api.OK, relief.CheckPosts(r, days, wanted))
				}
			})
		}
		calls.Wait()
		runtime.GOMAXPROCS(old)
	}
	for range 1000 { // a worker that has said that it ends may still be there for a moment
		if runtime.NumGoroutine() <= before {
			return
		}
		time.Sleep(time.Millisecond)
	}
	t.Error("goroutines:", runtime.NumGoroutine(), "before:", before)
}
