package book_test

import (
	"math"
	"math/rand"
	"slices"
	"strings"

	"leazing/api"
)

// Random records, and what is made of them.

// oneOf returns one of some values.
func oneOf[T any](r *rand.Rand, values ...T) T { return values[r.Intn(len(values))] }

// upTo returns a number up to most: both ends often.
func upTo(r *rand.Rand, most int) int { return oneOf(r, 0, most, r.Intn(most+1), r.Intn(most+1)) }

// text returns a random one: short and long ones, also of the first and of the last byte alone.
func text(r *rand.Rand) string {
	n := oneOf(r, 0, 1, 2, 3, r.Intn(20), r.Intn(20), r.Intn(161), 159, 160)
	switch r.Intn(8) {
	case 0:
		return strings.Repeat(" ", n)
	case 1:
		return strings.Repeat("~", n)
	case 2:
		return strings.Repeat("0 ", 80)[:n]
	}
	var l []byte
	for range n {
		l = append(l, byte(32+r.Intn(95)))
	}
	return string(l)
}

// record returns a random one of an item.
func record(r *rand.Rand, at api.Item) api.Record {
	if at.No > 0 && r.Intn(5) == 0 {
		return api.Record{At: at, Known: upTo(r, 4166), Of: item(at.Parish, upTo(r, at.No-1))}
	}
	return api.Record{At: at, Kind: 1 + upTo(r, 59), Day: upTo(r, 4166), Known: upTo(r, 4166), Text: text(r)}
}

// anyItem returns a random one.
func anyItem(r *rand.Rand) api.Item {
	return item(r.Intn(6), oneOf(r, 0, 1, 9, 10, 59, 60, 9999, r.Intn(10000)))
}

// many returns how many records there are, of at most so many: none and all of them often.
func many(r *rand.Rand, most int) int { return oneOf(r, 0, 1, 2, most, r.Intn(most+1), r.Intn(most+1)) }

// logOf returns a random log of so many records.
func logOf(r *rand.Rand, n int) []api.Record {
	parishes := r.Perm(6)[:1+r.Intn(6)]
	var log []api.Record
	var have [6]int
	for range n {
		parish := oneOf(r, parishes...)
		log = append(log, record(r, item(parish, have[parish])))
		have[parish]++
	}
	return log
}

// turned returns a log of the same records, in which the parishes take turns in another order.
func turned(r *rand.Rand, log []api.Record) []api.Record {
	var left [6][]api.Record
	for parish := range left {
		left[parish] = of(log, parish)
	}
	var other []api.Record
	for len(other) < len(log) {
		parish := r.Intn(6)
		if n := len(left[parish]); n > 0 {
			taken := 1 + r.Intn(n)
			other = append(other, left[parish][:taken]...)
			left[parish] = left[parish][taken:]
		}
	}
	return other
}

// part returns a log of the first ones of each parish's records.
func part(r *rand.Rand, log []api.Record) []api.Record {
	var most [6]int
	for parish := range most {
		most[parish] = upTo(r, len(of(log, parish)))
	}
	return slices.DeleteFunc(slices.Clone(log), func(x api.Record) bool { return x.At.No >= most[x.At.Parish] })
}

// bound returns what has a log, with some strips sewn.
func bound(r *rand.Rand, log []api.Record) api.Bound {
	b := wholeBound(log)
	for quire := range b.Sewn {
		b.Sewn[quire] = upTo(r, len(log))
	}
	return b
}

// picks returns random ones: none, few, and many of them.
func picks(r *rand.Rand) []int {
	var l []int
	for range oneOf(r, 0, 1, 2, 3, 7, 8, r.Intn(30), 400) {
		l = append(l, oneOf(r, r.Intn(4), r.Intn(4), r.Intn(200), -r.Intn(200), -1, -2, math.MinInt, math.MaxInt))
	}
	if len(l) > 0 && r.Intn(2) == 0 {
		l[0] = 3 - 4*r.Intn(3) // nothing is eaten
	}
	return l
}

// odd returns a number that is seldom right.
func odd(r *rand.Rand) int {
	return oneOf(r, math.MinInt, -1, 0, 1, 5, 6, 13, 14, 59, 60, 61, 240, 241, 4167, 10000, math.MaxInt)
}

// spoiltRecord returns a record one part of which is another one, often a wrong one.
func spoiltRecord(r *rand.Rand, x api.Record) api.Record {
	n := odd(r)
	switch r.Intn(9) {
	case 0:
		x.At.Parish = n
	case 1:
		x.At.No = n
	case 2:
		x.Kind = n
	case 3:
		x.Day = n
	case 4:
		x.Known = n
	case 5:
		x.Of.Parish = n
	case 6:
		x.Of.No = n
	case 7:
		x.Text += oneOf(r, "\x1f", "\x7f", "\n", "\x00", "\xff", "é", strings.Repeat("a", 161))
	default:
		x.Text += "a"
	}
	return x
}

// spoiltStrip returns a strip one part of which is another one.
func spoiltStrip(r *rand.Rand, s api.Strip) api.Strip {
	switch r.Intn(7) {
	case 0:
		s.No = oneOf(r, odd(r), s.No+1, s.No-1)
	case 1:
		s.Size = oneOf(r, odd(r), s.Size+1, s.Size-1)
	case 2:
		s.Text += oneOf(r, " ", "a", "\x7f")
	case 3:
		s.Text = s.Text[:upTo(r, len(s.Text))]
	case 4:
		s.Text = changed(r, s.Text)
	case 5:
		s.Text = changed(r, s.Text)
	default:
		s.Text = oneOf(r, "", "\x00", text(r))
	}
	return s
}

// changed returns a text with one byte that is another one; sometimes it is the last byte, or one that may not be.
func changed(r *rand.Rand, text string) string {
	if text == "" {
		return text
	}
	l := []byte(text)
	i := oneOf(r, r.Intn(len(l)), len(l)-1)
	l[i] = oneOf(r, byte(32+r.Intn(95)), byte(32+r.Intn(95)), 32, 126, 31, 127, byte(r.Intn(256)))
	return string(l)
}

// spoiltBound returns what is bound after some of its strips were lost, doubled, changed, or put elsewhere, or strips of other records were put in; with any numbers as Sewn.
func spoiltBound(r *rand.Rand, b api.Bound, changes int) api.Bound {
	b = copied(b)
	for range changes {
		quire := r.Intn(3)
		l := b.Strips[quire]
		place := r.Intn(len(l) + 1)
		if place == len(l) {
			strange := stripsOf(record(r, item(r.Intn(6), r.Intn(3))), r.Intn(len(l)+2))
			b.Strips[quire] = slices.Insert(l, r.Intn(len(l)+1), strange[oneOf(r, quire, quire, r.Intn(3))])
			continue
		}
		switch r.Intn(6) {
		case 0:
			b.Strips[quire] = slices.Delete(l, place, place+1)
		case 1:
			b.Strips[quire] = slices.Insert(l, r.Intn(len(l)+1), l[place])
		case 2:
			l[place] = spoiltStrip(r, l[place])
		case 3:
			b.Strips[quire] = slices.Insert(l, r.Intn(len(l)+1), spoiltStrip(r, l[place]))
		case 4:
			other := r.Intn(len(l))
			l[place], l[other] = l[other], l[place]
		default:
			to := r.Intn(3)
			b.Strips[to] = slices.Insert(b.Strips[to], r.Intn(len(b.Strips[to])+1), l[place])
		}
	}
	for quire := range b.Sewn {
		b.Sewn[quire] = oneOf(r, b.Sewn[quire], len(b.Strips[quire]), r.Intn(len(b.Strips[quire])+1), odd(r))
	}
	return b
}

// copied returns a copy of what is bound, in which strips can be changed.
func copied(b api.Bound) api.Bound {
	for quire, l := range b.Strips {
		b.Strips[quire] = slices.Clone(l)
	}
	return b
}

// parish returns a random one that has a log.
func parish(r *rand.Rand, log []api.Record) api.Parish {
	p := api.Parish{Me: r.Intn(6), Bound: bound(r, log), Log: log}
	for i := range p.Known {
		for j := range p.Known[i] {
			p.Known[i][j] = upTo(r, 60)
		}
	}
	return p
}

// letter returns a random one to a parish, of the records of a log.
func letter(r *rand.Rand, to int, log []api.Record) api.Letter {
	about := r.Intn(6)
	if len(log) > 0 && r.Intn(4) > 0 {
		about = oneOf(r, log...).At.Parish
	}
	all := of(log, about)
	first := oneOf(r, upTo(r, len(all)), max(0, len(all)-6), r.Intn(61))
	l := api.Letter{From: (to + 1 + r.Intn(5)) % 6, To: to, About: about, Many: oneOf(r, len(all), upTo(r, 60)), First: first}
	if first < len(all) {
		l.Records = slices.Clone(all[first:min(len(all), first+upTo(r, 6))])
	}
	return l
}

// spoiltLetter returns a letter one part of which is another one.
func spoiltLetter(r *rand.Rand, l api.Letter) api.Letter {
	n := oneOf(r, odd(r), r.Intn(6))
	l.Records = slices.Clone(l.Records)
	switch r.Intn(7) {
	case 0:
		l.From = n
	case 1:
		l.To = n
	case 2:
		l.About = n
	case 3:
		l.Many = n
	case 4:
		l.First = n
	case 5:
		l.Records = append(l.Records, l.Records...)
	default:
		for i := range l.Records {
			if r.Intn(3) == 0 {
				l.Records[i] = spoiltRecord(r, l.Records[i])
			}
		}
	}
	return l
}

// rounds calls a test with many random sources, each with its own seed.
func rounds(seed int64, n int, try func(r *rand.Rand)) {
	for i := range n {
		try(rand.New(rand.NewSource(seed*1000000 + int64(i))))
	}
}
