package book_test

import (
	"fmt"
	"math/big"
	"regexp"
	"slices"
	"strconv"
	"sync"

	"leazing/api"
)

// The definitions of the chapter, each as directly as it can be, and not in the way of the package.

const number = "(0|[1-9][0-9]{0,3})"

var (
	plain = regexp.MustCompile("^[ -~]{0,160}$")
	form  = regexp.MustCompile("^" + number + " " + number + " " + number + " " + number + " " + number + " " + number + " " + number + " ([ -~]{0,160})$")
)

func between(n, lo, hi int) bool { return lo <= n && n <= hi }

func isItem(i api.Item) bool { return between(i.Parish, 0, 5) && between(i.No, 0, 9999) }

func isRecord(r api.Record) bool {
	if !isItem(r.At) || !between(r.Kind, 0, 60) || !between(r.Day, 0, 4166) || !between(r.Known, 0, 4166) || !plain.MatchString(r.Text) {
		return false
	}
	if r.Kind > 0 {
		return r.Of.Parish == 0 && r.Of.No == 0
	}
	return r.Day == 0 && len(r.Text) == 0 && isItem(r.Of) && r.Of.Parish == r.At.Parish && r.Of.No < r.At.No
}

func textOf(r api.Record) string {
	return fmt.Sprintf("%d %d %d %d %d %d %d %s", r.At.Parish, r.At.No, r.Kind, r.Day, r.Known, r.Of.Parish, r.Of.No, r.Text)
}

// recordOf returns the valid record that a text is of, if there is one.
func recordOf(text string) (api.Record, bool) {
	words := form.FindStringSubmatch(text)
	if words == nil {
		return api.Record{}, false
	}
	var n []int
	for _, word := range words[1:8] {
		x, _ := strconv.Atoi(word)
		n = append(n, x)
	}
	r := api.Record{At: item(n[0], n[1]), Kind: n[2], Day: n[3], Known: n[4], Of: item(n[5], n[6]), Text: words[8]}
	if !isRecord(r) {
		return api.Record{}, false
	}
	return r, true
}

// third returns the byte of the third third, by those of the others.
func third(x, y byte) byte { return byte(32 + ((int(x)-32)+(int(y)-32))%95) }

// stripsOf returns the three strips of a record that is written as the no-th one.
func stripsOf(r api.Record, no int) []api.Strip {
	text := textOf(r)
	var even, odd, sums []byte
	for i := range len(text) {
		if i%2 == 0 {
			even = append(even, text[i])
		} else {
			odd = append(odd, text[i])
		}
	}
	if len(text)%2 != 0 {
		odd = append(odd, ' ')
	}
	for i := range even {
		sums = append(sums, third(even[i], odd[i]))
	}
	return []api.Strip{{No: no, Size: len(text), Text: string(even)}, {No: no, Size: len(text), Text: string(odd)}, {No: no, Size: len(text), Text: string(sums)}}
}

func isWhole(quire int, s api.Strip) bool {
	if !between(s.No, 0, 59) || !between(s.Size, 14, 240) || 2*len(s.Text) != s.Size+s.Size%2 || !plain.MatchString(s.Text) {
		return false
	}
	return quire != 1 || s.Size%2 == 0 || s.Text[len(s.Text)-1:] == " "
}

// twoOf is the bytes of two thirds at one index, each with its quire.
type twoOf struct {
	quire int
	a     byte
	other int
	b     byte
}

// solutions returns the bytes of the first two thirds, by those of any two: all bytes are gone through.
var solutions = sync.OnceValue(func() map[twoOf][2]byte {
	all := map[twoOf][2]byte{}
	for x := byte(32); x <= 126; x++ {
		for y := byte(32); y <= 126; y++ {
			bytes := [3]byte{x, y, third(x, y)}
			for quire := range 3 {
				for other := range 3 {
					if quire != other {
						all[twoOf{quire, bytes[quire], other, bytes[other]}] = [2]byte{x, y}
					}
				}
			}
		}
	}
	return all
})

// mended returns the text of which two whole strips are thirds.
func mended(quire int, a api.Strip, other int, b api.Strip) string {
	text := ""
	for i := range len(a.Text) {
		both := solutions()[twoOf{quire, a.Text[i], other, b.Text[i]}]
		text += string(both[:])
	}
	return text[:a.Size]
}

// areMendable tells whether two strips are whole, and of one No and Size.
func areMendable(quire int, a api.Strip, other int, b api.Strip) bool {
	return isWhole(quire, a) && isWhole(other, b) && a.No == b.No && a.Size == b.Size
}

// of returns the records of a parish, in order.
func of(l []api.Record, parish int) []api.Record {
	return slices.DeleteFunc(slices.Clone(l), func(r api.Record) bool { return r.At.Parish != parish })
}

func isLog(l []api.Record) bool {
	for i, r := range l {
		if !isRecord(r) || r.At.No != len(of(l[:i], r.At.Parish)) {
			return false
		}
	}
	return len(l) <= 60
}

// bookOf returns the book of a log.
func bookOf(log []api.Record) api.Book {
	var b api.Book
	for parish := range 6 {
		b.Records = append(b.Records, of(log, parish)...)
	}
	return b
}

func isBook(b api.Book) bool { return isLog(b.Records) && same(bookOf(b.Records), b) }

// find returns the record of an item.
func find(l []api.Record, at api.Item) (api.Record, bool) {
	i := slices.IndexFunc(l, func(r api.Record) bool { return r.At == at })
	if i < 0 {
		return api.Record{}, false
	}
	return l[i], true
}

// addError returns the error of a record that is added to those of a log or a book.
func addError(l []api.Record, r api.Record) api.Errno {
	if !isRecord(r) {
		return api.ErrRecord
	}
	if x, has := find(l, r.At); has {
		return verdict(x == r, api.ErrDiffer)
	}
	if r.At.No > len(of(l, r.At.Parish)) {
		return api.ErrGap
	}
	return verdict(len(l) != 60, api.ErrLong)
}

func added(b api.Book, r api.Record) (api.Book, api.Errno) {
	if !isBook(b) {
		return api.Book{}, api.ErrBook
	}
	if e := addError(b.Records, r); e != api.OK {
		return api.Book{}, e
	}
	if slices.Contains(b.Records, r) {
		return b, api.OK
	}
	return bookOf(slices.Concat(b.Records, []api.Record{r})), api.OK
}

func joined(a, b api.Book) (api.Book, api.Errno) {
	if !isBook(a) || !isBook(b) {
		return api.Book{}, api.ErrBook
	}
	all := map[api.Item]api.Record{}
	for _, r := range slices.Concat(a.Records, b.Records) {
		if x, has := all[r.At]; has && x != r {
			return api.Book{}, api.ErrDiffer
		}
		all[r.At] = r
	}
	if len(all) > 60 {
		return api.Book{}, api.ErrLong
	}
	var both api.Book
	for parish := range 6 {
		for no := range 60 {
			if r, has := all[item(parish, no)]; has {
				both.Records = append(both.Records, r)
			}
		}
	}
	return both, api.OK
}

// wholeBound returns what has a log, with no strip sewn.
func wholeBound(log []api.Record) api.Bound {
	var b api.Bound
	for no, r := range log {
		for quire, s := range stripsOf(r, no) {
			b.Strips[quire] = append(b.Strips[quire], s)
		}
	}
	return b
}

func sewn(b api.Bound) api.Bound {
	for quire, l := range b.Strips {
		b.Sewn[quire] = len(l)
	}
	return b
}

func hasLog(b api.Bound, log []api.Record) bool {
	if !isLog(log) {
		return false
	}
	whole := wholeBound(log)
	for quire, n := range b.Sewn {
		if !between(n, 0, len(log)) || !slices.Equal(b.Strips[quire], whole.Strips[quire]) {
			return false
		}
	}
	return true
}

func written(b api.Bound, log []api.Record, r api.Record) (api.Bound, []api.Record, api.Errno) {
	if !hasLog(b, log) {
		return api.Bound{}, nil, api.ErrQuires
	}
	if e := addError(log, r); e != api.OK {
		return api.Bound{}, nil, e
	}
	if slices.Contains(log, r) {
		return b, log, api.OK
	}
	more := slices.Concat(log, []api.Record{r})
	longer := wholeBound(more)
	longer.Sewn = b.Sewn
	return longer, more, api.OK
}

// choice returns a number modulo another one.
func choice(a, n int) int {
	return int(new(big.Int).Mod(big.NewInt(int64(a)), big.NewInt(int64(n))).Int64())
}

// torn returns what is left of what is bound. It says of each number that is taken which one it is.
func torn(b api.Bound, picks []int) api.Bound {
	taken := 0
	number := func() int {
		taken++
		if len(picks) == 0 {
			return 0
		}
		return picks[(taken-1)%len(picks)]
	}
	eaten := choice(number(), 4)
	var left api.Bound
	for quire := range 3 {
		for i, s := range b.Strips[quire] {
			isSewn, keeps := i < b.Sewn[quire], true
			if !isSewn {
				a := number()
				n := number()
				keeps = choice(a, 3) > 0
				if choice(a, 3) == 1 && s.Text != "" {
					s.Text = s.Text[:choice(n, len(s.Text))]
				}
			}
			if quire == eaten || !keeps {
				continue
			}
			left.Strips[quire] = append(left.Strips[quire], s)
			if isSewn {
				left.Sewn[quire]++
			}
		}
	}
	return left
}

// firstWhole returns the first strip of a No that is whole in its quire.
func firstWhole(b api.Bound, quire, no int) (api.Strip, bool) {
	for _, s := range b.Strips[quire] {
		if s.No == no && isWhole(quire, s) {
			return s, true
		}
	}
	return api.Strip{}, false
}

// textAt returns the text that is found of a No, if two quires have it.
func textAt(b api.Bound, no int) (string, bool) {
	for _, pair := range [][2]int{{0, 1}, {0, 2}, {1, 2}} {
		s, has := firstWhole(b, pair[0], no)
		o, also := firstWhole(b, pair[1], no)
		if has && also && s.Size == o.Size {
			return mended(pair[0], s, pair[1], o), true
		}
	}
	return "", false
}

func opened(b api.Bound) (api.Bound, []api.Record) {
	var log []api.Record
	for {
		text, found := textAt(b, len(log))
		r, isOne := recordOf(text)
		if !found || !isOne || !isLog(slices.Concat(log, []api.Record{r})) {
			return sewn(wholeBound(log)), log
		}
		log = append(log, r)
	}
}

func isParish(p api.Parish) bool {
	for _, known := range p.Known {
		for _, n := range known {
			if !between(n, 0, 60) {
				return false
			}
		}
	}
	return between(p.Me, 0, 5) && hasLog(p.Bound, p.Log)
}

func isLetter(l api.Letter) bool {
	if !between(l.From, 0, 5) || !between(l.To, 0, 5) || l.From == l.To || !between(l.About, 0, 5) || !between(l.Many, 0, 60) || !between(l.First, 0, 60) || len(l.Records) > 6 {
		return false
	}
	next := item(l.About, l.First)
	for _, r := range l.Records {
		if !isRecord(r) || r.At != next {
			return false
		}
		next.No++
	}
	return true
}

// letterOf returns the letter of a parish to another one, about a parish, from a number on.
func letterOf(p api.Parish, to, about, first int) api.Letter {
	all := of(p.Log, about)
	l := api.Letter{From: p.Me, To: to, About: about, Many: len(all), First: first}
	if first < len(all) {
		l.Records = all[first:min(len(all), first+6)]
	}
	return l
}

func noted(p api.Parish, r api.Record) (api.Parish, api.Record, api.Errno) {
	if !isParish(p) {
		return api.Parish{}, api.Record{}, api.ErrParish
	}
	r.At = item(p.Me, len(of(p.Log, p.Me)))
	b, log, e := written(p.Bound, p.Log, r)
	if e != api.OK {
		return api.Parish{}, api.Record{}, e
	}
	p.Bound, p.Log = b, log
	return p, r, api.OK
}

func sent(p api.Parish, to, about int) (api.Parish, api.Letter, api.Errno) {
	if !isParish(p) {
		return api.Parish{}, api.Letter{}, api.ErrParish
	}
	if !between(to, 0, 5) || to == p.Me || !between(about, 0, 5) {
		return api.Parish{}, api.Letter{}, api.ErrArg
	}
	p.Bound = sewn(p.Bound)
	return p, letterOf(p, to, about, len(of(p.Log, about))), api.OK
}

func received(p api.Parish, l api.Letter) (api.Parish, []api.Letter, api.Errno) {
	if !isParish(p) {
		return api.Parish{}, nil, api.ErrParish
	}
	if !isLetter(l) || l.To != p.Me {
		return api.Parish{}, nil, api.ErrLetter
	}
	for _, r := range l.Records {
		if r.At.No > len(of(p.Log, l.About)) {
			continue
		}
		b, log, e := written(p.Bound, p.Log, r)
		if e != api.OK {
			return api.Parish{}, nil, e
		}
		p.Bound, p.Log = b, log
	}
	if l.Many > p.Known[l.From][l.About] {
		p.Known[l.From][l.About] = l.Many
	}
	p.Bound = sewn(p.Bound)
	has := len(of(p.Log, l.About))
	if has > l.Many {
		return p, []api.Letter{letterOf(p, l.From, l.About, l.Many)}, api.OK
	}
	if has < l.Many {
		return p, []api.Letter{letterOf(p, l.From, l.About, has)}, api.OK
	}
	return p, nil, api.OK
}

func restarted(p api.Parish, picks []int) (api.Parish, api.Errno) {
	if !isParish(p) {
		return api.Parish{}, api.ErrParish
	}
	b, log := opened(torn(p.Bound, picks))
	return api.Parish{Me: p.Me, Bound: b, Log: log}, api.OK
}

// verdict returns OK if something is valid, and otherwise an error.
func verdict(valid bool, wrong api.Errno) api.Errno {
	if valid {
		return api.OK
	}
	return wrong
}
