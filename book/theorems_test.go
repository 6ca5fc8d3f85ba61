package book_test

import (
	"math/rand"
	"slices"
	"strconv"
	"testing"

	"leazing/api"
	"leazing/book"
)

// P8.4 to P8.6: books that tear, and letters that get lost, or come twice, or late.

// survivors returns how many records can still be read one after the other, by the numbers that are taken, if just the first ones are sewn: in two quires at least, their strips are not lost, not torn, and not eaten.
func survivors(all, safe int, picks []int) int {
	number := func(i int) int {
		if len(picks) == 0 {
			return 0
		}
		return picks[i%len(picks)]
	}
	eaten := choice(number(0), 4)
	for no := range all {
		left := 0
		for quire := range 3 {
			stays := no < safe || choice(number(1+2*(quire*(all-safe)+no-safe)), 3) == 2
			if stays && quire != eaten {
				left++
			}
		}
		if left < 2 {
			return no
		}
	}
	return all
}

// checkTorn wants P8.4 of what has a log, the first records of which were there at the last Sew or Open.
func checkTorn(t *testing.T, b api.Bound, log []api.Record, safe int, picks []int) (api.Bound, []api.Record) {
	t.Helper()
	opened, left := book.Open(book.Tear(b, picks))
	n := len(left)
	if n < safe || n > len(log) || !slices.Equal(left, log[:n]) {
		t.Fatalf("%v, %d of them safe: after %v: %v", short(log), safe, picks, short(left))
	}
	if n != survivors(len(log), safe, picks) {
		t.Fatalf("%v, %d of them safe: after %v: %d are left", short(log), safe, picks, n)
	}
	wantError(t, left, api.OK, book.CheckBound(opened, left))
	want(t, left, sewn(wholeBound(left)), api.OK)(opened, api.OK)
	return opened, left
}

// TestTorn: P8.4, in many rounds.
func TestTorn(t *testing.T) {
	lost, some, whole := 0, 0, 0
	rounds(60, 400, func(r *rand.Rand) {
		var b api.Bound
		var log []api.Record
		safe := 0
		for range 60 {
			switch r.Intn(8) {
			case 0:
				b, safe = book.Sew(b), len(log)
			case 1:
				n := len(log)
				b, log = checkTorn(t, b, log, safe, picks(r))
				switch {
				case n == safe:
				case len(log) == safe:
					lost++
				case len(log) < n:
					some++
				default:
					whole++
				}
				safe = len(log)
			case 2:
				if len(log) > 0 { // one that is there
					b, log = mustTwo[api.Bound, []api.Record](t, log)(book.Write(b, log, oneOf(r, log...)))
				}
			default:
				if len(log) == 60 {
					break
				}
				parish := r.Intn(6)
				b, log = mustTwo[api.Bound, []api.Record](t, log)(book.Write(b, log, record(r, item(parish, len(of(log, parish))))))
			}
			checkTorn(t, b, log, safe, picks(r))
		}
	})
	if lost < 100 || some < 50 || whole < 50 {
		t.Error("tried:", lost, some, whole)
	}
}

// TestTornInAllWays: P8.4, by all fates of the strips of one and of two records that are not sewn, and of each quire.
func TestTornInAllWays(t *testing.T) {
	for safe := range 3 {
		for loose := 1; loose <= 2; loose++ {
			log := logOf(rand.New(rand.NewSource(int64(61+safe))), safe+loose)
			b := wholeBound(log)
			b.Sewn = [3]int{safe, safe, safe}
			ways := 1
			for range 3 * loose {
				ways *= 3
			}
			for eaten := range 4 {
				for way := range ways {
					picks := list(eaten)
					for left := way; len(picks) < 1+6*loose; left /= 3 {
						picks = append(picks, left%3, way)
					}
					checkTorn(t, b, log, safe, picks)
				}
			}
		}
	}
}

// parishes are six of them, their letters under way, and what they said.
type parishes struct {
	all     [6]api.Parish
	letters []api.Letter
	said    [6][6]int // how many records each of them said to have, of each parish
	noted   int
	awake   []int // those that do something
}

func newParishes(t *testing.T, awake []int) *parishes {
	t.Helper()
	p := parishes{awake: awake}
	for me := range p.all {
		p.all[me] = must[api.Parish](t, me)(book.NewParish(me))
	}
	return &p
}

// post puts a letter under way.
func (p *parishes) post(l api.Letter) {
	p.letters = append(p.letters, l)
	p.said[l.From][l.About] = max(p.said[l.From][l.About], l.Many)
}

// note writes a record as no other one; a parish that lost one writes another one of its item.
func (p *parishes) note(t *testing.T, r *rand.Rand, me int) {
	t.Helper()
	p.noted++
	x := record(r, item(me, len(of(p.all[me].Log, me))))
	if x.Kind != 0 {
		x.Text = strconv.Itoa(p.noted) + x.Text[:min(len(x.Text), 150)]
	}
	due := verdict(len(p.all[me].Log) < 60, api.ErrLong)
	after, noted, e := book.Note(p.all[me], x)
	wantError(t, x, due, e)
	if e == api.OK {
		want(t, x, x, api.OK)(noted, api.OK)
		p.all[me] = after
	}
}

func (p *parishes) send(t *testing.T, me, to, about int) {
	t.Helper()
	after, l := mustTwo[api.Parish, api.Letter](t, p.all[me])(book.Send(p.all[me], to, about))
	p.all[me] = after
	p.post(l)
}

// receive lets a letter come, and posts what goes back; it returns the error, which can only be that there are too many records.
func (p *parishes) receive(t *testing.T, l api.Letter) api.Errno {
	t.Helper()
	after, back, e := book.Receive(p.all[l.To], l)
	if e != api.OK && e != api.ErrLong {
		t.Fatalf("%+v: error %d of %s", l, e, short(p.all[l.To]))
	}
	if e == api.OK {
		p.all[l.To] = after
		for _, answer := range back {
			p.post(answer)
		}
	}
	return e
}

// taken returns the letter with an index, which is not under way any more.
func (p *parishes) taken(i int) api.Letter {
	l := p.letters[i]
	p.letters = slices.Delete(p.letters, i, i+1)
	return l
}

// restart restarts a parish.
func (p *parishes) restart(t *testing.T, me int, picks []int) {
	t.Helper()
	p.all[me] = must[api.Parish](t, p.all[me])(book.Restart(p.all[me], picks))
}

// check wants P8.5 of a parish, now and if it restarts: it has what it ever said, and what others know of it, and no two parishes have records that differ.
func (p *parishes) check(t *testing.T, r *rand.Rand, me int) {
	t.Helper()
	now := p.all[me]
	for _, x := range []api.Parish{now, must[api.Parish](t, now)(book.Restart(now, picks(r)))} {
		for about, said := range p.said[me] {
			if has := len(of(x.Log, about)); has < said {
				t.Fatalf("%d has %d records of %d, and said %d", me, has, about, said)
			}
			if known := p.all[(me+1)%6].Known[me][about]; known > p.said[me][about] {
				t.Fatalf("%d is known to have %d records of %d, and said %d", me, known, about, said)
			}
		}
	}
	other := p.another(r, me)
	if _, e := book.Join(sorted(t, now.Log), sorted(t, p.all[other].Log)); e != api.OK && e != api.ErrLong {
		t.Fatalf("%d and %d: error %d", me, other, e)
	}
}

// another returns another parish that does something.
func (p *parishes) another(r *rand.Rand, me int) int {
	return oneOf(r, slices.DeleteFunc(slices.Clone(p.awake), func(x int) bool { return x == me })...)
}

// play plays some rounds; noting is how often records are noted, of 20 times. It returns how many letters came, and how many of them could not be taken.
func (p *parishes) play(t *testing.T, r *rand.Rand, steps, noting int) (came, full int) {
	t.Helper()
	for range steps {
		me := oneOf(r, p.awake...)
		switch n := r.Intn(20); {
		case n < noting:
			p.note(t, r, me)
		case n < noting+4:
			p.send(t, me, p.another(r, me), oneOf(r, oneOf(r, p.awake...), r.Intn(6)))
		case n == 19 && r.Intn(2) == 0:
			p.restart(t, me, picks(r))
		case len(p.letters) > 0:
			i := r.Intn(len(p.letters))
			l := p.letters[i]
			if r.Intn(4) > 0 { // otherwise it comes once more
				p.taken(i)
			}
			if r.Intn(8) == 0 { // it is lost
				continue
			}
			came++
			if p.receive(t, l) != api.OK {
				full++
			}
			me = l.To
		}
		p.check(t, r, me)
	}
	return came, full
}

// TestLetters: P8.5, in many rounds: letters are lost, doubled, delayed, and received in any order.
func TestLetters(t *testing.T) {
	came, full, records := 0, 0, 0
	rounds(62, 120, func(r *rand.Rand) {
		p := newParishes(t, r.Perm(6)[:2+r.Intn(5)])
		c, f := p.play(t, r, 300, oneOf(r, 1, 2, 3, 8))
		came, full = came+c, full+f
		for _, x := range p.all {
			records += len(x.Log) - len(of(x.Log, x.Me))
		}
	})
	if came < 10000 || full < 20 || records < 5000 {
		t.Error("tried:", came, full, records)
	}
}

// meet lets two parishes send each other letters about all parishes, until none goes back; some letters come twice.
func (p *parishes) meet(t *testing.T, r *rand.Rand, a, b int) {
	t.Helper()
	p.letters = nil
	for about := range 6 {
		p.send(t, a, b, about)
		p.send(t, b, a, about)
	}
	for came := 0; len(p.letters) > 0; came++ {
		if came > 1000 {
			t.Fatal("letters go back again and again")
		}
		i := r.Intn(len(p.letters))
		l := p.letters[i]
		if r.Intn(8) > 0 {
			p.taken(i)
		}
		wantError(t, l, api.OK, p.receive(t, l))
	}
}

// TestMeetings: P8.6.
func TestMeetings(t *testing.T) {
	met, moved := 0, 0
	rounds(63, 150, func(r *rand.Rand) {
		p := newParishes(t, r.Perm(6)[:2+r.Intn(5)])
		for range 4 {
			p.play(t, r, 60, oneOf(r, 1, 2, 4))
			a := oneOf(r, p.awake...)
			b := p.another(r, a)
			before, after := sorted(t, p.all[a].Log), sorted(t, p.all[b].Log)
			both, e := book.Join(before, after)
			if e != api.OK {
				continue
			}
			p.meet(t, r, a, b)
			want(t, []int{a, b}, both, api.OK)(book.Sorted(p.all[a].Log))
			want(t, []int{a, b}, both, api.OK)(book.Sorted(p.all[b].Log))
			met++
			if len(both.Records) > len(before.Records) && len(both.Records) > len(after.Records) {
				moved++
			}
			p.check(t, r, a)
			p.check(t, r, b)
		}
	})
	if met < 200 || moved < 100 {
		t.Error("tried:", met, moved)
	}
}

// TestMeetingsOfFull: P8.6, of parishes with many records in common and of their own, which fill their books.
func TestMeetingsOfFull(t *testing.T) {
	full := 0
	rounds(64, 100, func(r *rand.Rand) {
		log := logOf(r, 60)
		p := newParishes(t, list(0, 1))
		for me := range 2 {
			others := slices.DeleteFunc(part(r, log), func(x api.Record) bool { return x.At.Parish == me })
			p.all[me].Log = turned(r, slices.Concat(of(log, me), others))
			p.all[me].Bound = bound(r, p.all[me].Log)
		}
		both := join(t, sorted(t, p.all[0].Log), sorted(t, p.all[1].Log))
		if len(both.Records) == 60 && len(p.all[0].Log) < 60 && len(p.all[1].Log) < 60 {
			full++
		}
		p.meet(t, r, 0, 1)
		want(t, "0", both, api.OK)(book.Sorted(p.all[0].Log))
		want(t, "1", both, api.OK)(book.Sorted(p.all[1].Log))
	})
	if full < 5 {
		t.Error("tried:", full)
	}
}
