package queen

import (
	"slices"

	"leazing/api"
	"leazing/book"
)

// What the commands do with letters.

// pick returns the index of what the command means of a list; it panics if that is empty.
func pick[T any](list []T, n int) int {
	demand(verdict(len(list) > 0, api.ErrNone))
	return (n%len(list) + len(list)) % len(list)
}

// taken returns an element of a list, and the list without it.
func taken[T any](list []T, i int) (T, []T) {
	return list[i], slices.Delete(slices.Clone(list), i, i+1)
}

func (d doing) lettersUnderWay() []string { return answer(line("letters", len(d.letters))) }

func (d doing) send() []string {
	p, l, e := book.Send(d.home(), d.Args[1], d.Args[2])
	demand(e)
	d.letters = must(added(d.letters, l, api.MaxLetters))
	d.parishes[d.Args[0]] = p
	return d.lettersUnderWay()
}

func (d doing) deliver() []string {
	l := d.loseLetter()
	p, back, e := book.Receive(d.parishes[l.To], l)
	demand(e)
	d.parishes[l.To] = p
	d.letters = slices.Concat(d.letters, back)
	return d.lettersUnderWay()
}

// loseLetter takes a letter from those under way.
func (d doing) loseLetter() api.Letter {
	l, others := taken(d.letters, pick(d.letters, d.Args[0]))
	d.letters = others
	return l
}

func (d doing) lose() []string {
	d.loseLetter()
	return d.lettersUnderWay()
}

func (d doing) double() []string {
	l := d.letters[pick(d.letters, d.Args[0])]
	d.letters = must(added(d.letters, l, api.MaxLetters))
	return d.lettersUnderWay()
}

func (d doing) torn() []string {
	p := must(book.Restart(d.home(), d.Args[1:]))
	d.parishes[d.Args[0]] = p
	return answer(line("records", len(p.Log)))
}
