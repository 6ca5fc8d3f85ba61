package book_test

import (
	"math"
	"math/rand"
	"slices"
	"strings"
	"testing"

	"leazing/api"
	"leazing/book"
)

// P8.1 and P8.3: strips.

// TestTwoOfThree: P8.3.
func TestTwoOfThree(t *testing.T) {
	sizes := map[int]int{}
	check := func(x api.Record, no int) {
		l := must[[]api.Strip](t, x)(book.Thirds(x, no))
		want(t, x, stripsOf(x, no), api.OK)(l, api.OK)
		sizes[l[0].Size]++
		for quire, s := range l {
			wantError(t, s, api.OK, book.CheckStrip(quire, s))
			for n := range len(s.Text) {
				beginning := s
				beginning.Text = s.Text[:n]
				wantError(t, beginning, api.ErrStrip, book.CheckStrip(quire, beginning))
			}
			for other, o := range l {
				if other != quire {
					want(t, []any{x, quire, other}, textOf(x), api.OK)(book.Mend(quire, s, other, o))
				}
			}
		}
	}
	for n := range 161 {
		for _, b := range []string{" ", "~", "a"} {
			check(api.Record{Kind: 1, Text: strings.Repeat(b, n)}, n%60)
			check(api.Record{At: item(5, 9999), Kind: 60, Day: 4166, Known: 4166, Text: strings.Repeat(b, n)}, n%60)
		}
	}
	check(aWithdrawal(), 59)
	rounds(20, 4000, func(r *rand.Rand) { check(record(r, anyItem(r)), upTo(r, 59)) })
	for size := 14; size <= 184; size++ {
		if sizes[size] == 0 {
			t.Error("tried no text of so many bytes:", size)
		}
	}
}

func TestThirdsErrors(t *testing.T) {
	edges(0, 59, func(n int, valid bool) {
		want(t, n, none(valid, stripsOf(key(), n)), verdict(valid, api.ErrArg))(book.Thirds(key(), n))
		want(t, n, []api.Strip{}, api.ErrRecord)(book.Thirds(api.Record{Kind: 61}, n))
	})
}

// printed has all bytes that texts may have.
const printed = " !\"#$%&'()*+,-./0123456789:;<=>?@ABCDEFGHIJKLMNOPQRSTUVWXYZ[\\]^_`abcdefghijklmnopqrstuvwxyz{|}~"

// anyStrip returns a random strip that is whole in a quire.
func anyStrip(r *rand.Rand, quire, no, size int) api.Strip {
	n := (size + 1) / 2
	l := []byte(strings.Repeat(oneOf(r, " ", "~", "0"), n))
	if r.Intn(4) > 0 {
		for i := range l {
			l[i] = byte(32 + r.Intn(95))
		}
	}
	if quire == 1 && size%2 == 1 {
		l[n-1] = ' '
	}
	return api.Strip{No: no, Size: size, Text: string(l)}
}

// thirdsOf returns the thirds of any text.
func thirdsOf(text string) [3]string {
	if len(text)%2 == 1 {
		text += " "
	}
	var l [3][]byte
	for i := 0; i < len(text); i += 2 {
		l[0], l[1], l[2] = append(l[0], text[i]), append(l[1], text[i+1]), append(l[2], third(text[i], text[i+1]))
	}
	return [3]string{string(l[0]), string(l[1]), string(l[2])}
}

// TestMendOfAnyStrips: strips that are whole, but not of a record: just one text has them as thirds; if it has an odd number of bytes, the last one of what is not asked for is not looked at.
func TestMendOfAnyStrips(t *testing.T) {
	rest := 0
	check := func(r *rand.Rand, size int) {
		for quire := range 3 {
			for other := range 3 {
				if other == quire {
					continue
				}
				a, b := anyStrip(r, quire, 59, size), anyStrip(r, other, 59, size)
				text := must[string](t, []any{a, b})(book.Mend(quire, a, other, b))
				want(t, []any{quire, a, other, b}, mended(quire, a, other, b), api.OK)(text, api.OK)
				if len(text) != size || strings.Trim(text, printed) != "" {
					t.Fatalf("Mend of %+v and %+v: %q", a, b, text)
				}
				thirds, last := thirdsOf(text), len(a.Text)-size%2
				if thirds[quire][:last] != a.Text[:last] || thirds[other][:last] != b.Text[:last] {
					t.Fatalf("Mend of %+v and %+v: %q, whose thirds are others", a, b, text)
				}
				if thirds[quire] != a.Text || thirds[other] != b.Text {
					rest++
				}
			}
		}
	}
	for size := 14; size <= 240; size++ {
		rounds(int64(3000+size), 5, func(r *rand.Rand) { check(r, size) })
	}
	if rest < 500 {
		t.Error("tried:", rest)
	}
}

// TestLastByte: of an odd Size, the last byte of the second third is a space where it is looked at; the one that is found is not looked at.
func TestLastByte(t *testing.T) {
	l := keyStrips()
	for b := byte(32); b <= 126; b++ {
		s := l[2]
		s.Text = s.Text[:10] + string(rune(b)) // the second third would end with another byte than a space
		want(t, s, keyText, api.OK)(book.Mend(0, l[0], 2, s))
		want(t, s, keyText, api.OK)(book.Mend(2, s, 0, l[0]))
		want(t, s, keyText[:20]+string(rune(b)), api.OK)(book.Mend(2, s, 1, l[1]))
		s = l[1]
		s.Text = s.Text[:10] + string(rune(b))
		right := none(b == 32, keyText)
		want(t, s, right, verdict(b == 32, api.ErrStrip))(book.Mend(0, l[0], 1, s))
		want(t, s, right, verdict(b == 32, api.ErrStrip))(book.Mend(1, s, 2, l[2]))
	}
}

func TestMendErrors(t *testing.T) {
	l := keyStrips()
	numbers := list(math.MinInt, -1, 0, 1, 2, 3, 4, math.MaxInt)
	for _, quire := range numbers {
		for _, other := range numbers {
			right := between(quire, 0, 2) && between(other, 0, 2) && quire != other
			a, b := l[choice(quire, 3)], l[choice(other, 3)]
			want(t, []int{quire, other}, none(right, keyText), verdict(right, api.ErrArg))(book.Mend(quire, a, other, b))
			wrong := none(!right, api.ErrArg) + none(right, api.ErrStrip)
			want(t, []int{quire, other}, "", wrong)(book.Mend(quire, api.Strip{}, other, b))
			want(t, []int{quire, other}, "", wrong)(book.Mend(quire, a, other, api.Strip{}))
		}
	}
	want(t, "the quires the other way round", "", api.ErrStrip)(book.Mend(1, l[0], 0, l[1]))
	other := l[1]
	other.No = 1
	want(t, "another No", "", api.ErrStrip)(book.Mend(0, l[0], 1, other))
	other = l[1]
	other.Size = 22
	wantError(t, other, api.OK, book.CheckStrip(1, other))
	want(t, "another Size", "", api.ErrStrip)(book.Mend(0, l[0], 1, other))
	want(t, "another Size", "", api.ErrStrip)(book.Mend(1, other, 0, l[0]))
}

// TestMendOfSpoiltStrips: strips parts of which are other ones.
func TestMendOfSpoiltStrips(t *testing.T) {
	count := map[bool]int{}
	rounds(21, 20000, func(r *rand.Rand) {
		l := stripsOf(record(r, anyItem(r)), upTo(r, 59))
		quire, other := r.Intn(3), r.Intn(3)
		if quire == other {
			return
		}
		a, b := l[quire], l[other]
		if r.Intn(2) == 0 {
			a = spoiltStrip(r, a)
		} else {
			b = spoiltStrip(r, b)
		}
		if r.Intn(6) == 0 {
			a, b = l[r.Intn(3)], l[r.Intn(3)]
		}
		right := areMendable(quire, a, other, b)
		text := ""
		if right {
			text = mended(quire, a, other, b)
		}
		count[right]++
		wantError(t, a, verdict(isWhole(quire, a), api.ErrStrip), book.CheckStrip(quire, a))
		want(t, []any{quire, a, other, b}, text, verdict(right, api.ErrStrip))(book.Mend(quire, a, other, b))
	})
	if count[true] < 1000 || count[false] < 1000 {
		t.Error("tried:", count)
	}
}

// TestThirdsOfOnePlace: strips have the place at which a record is written as No, not the No of its item.
func TestThirdsOfOnePlace(t *testing.T) {
	for no := range 60 {
		for _, s := range must[[]api.Strip](t, no)(book.Thirds(key(), no)) {
			if s.No != no || s.Size != len(keyText) {
				t.Errorf("Thirds(%d): %+v", no, s)
			}
		}
	}
	l := must[[]api.Strip](t, 9999)(book.Thirds(api.Record{At: item(5, 9999), Kind: 1}, 3))
	if slices.ContainsFunc(l, func(s api.Strip) bool { return s.No != 3 }) {
		t.Errorf("Thirds(3): %+v", l)
	}
}
