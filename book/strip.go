package book

import "leazing/api"

const (
	minSize   = 14 // bytes of the text of the shortest record
	manyBytes = lastByte - firstByte + 1
)

func isQuire(n int) bool { return within(n, 0, api.Quires-1) }

// isPlace reports whether a record can be written as the no-th one.
func isPlace(no int) bool { return within(no, 0, api.MaxRecords-1) }

// Thirds returns the three strips of a record that is written as the no-th one; ErrRecord or ErrArg.
func Thirds(r api.Record, no int) ([]api.Strip, api.Errno) {
	if e := firstOf(CheckRecord(r), verdict(isPlace(no), api.ErrArg)); e != api.OK {
		return nil, e
	}
	return thirdsOf(r, no), api.OK
}

// thirdsOf returns the strips of a record, one for each quire.
func thirdsOf(r api.Record, no int) []api.Strip {
	text := textOf(r)
	size := len(text)
	if size%2 == 1 {
		text += " "
	}
	var first, second, third []byte
	for i := 0; i < len(text); i += 2 {
		x, y := text[i], text[i+1]
		first = append(first, x)
		second = append(second, y)
		third = append(third, sum(x, y))
	}
	return []api.Strip{
		{No: no, Size: size, Text: string(first)},
		{No: no, Size: size, Text: string(second)},
		{No: no, Size: size, Text: string(third)},
	}
}

// sum returns the byte of the third third that belongs to those of the others.
func sum(x, y byte) byte { return firstByte + (x-firstByte+y-firstByte)%manyBytes }

// difference returns the byte that belongs to x, if z is their sum.
func difference(z, x byte) byte { return firstByte + (z+manyBytes-x)%manyBytes }

// CheckStrip returns OK for a strip that is whole in a quire, and otherwise ErrArg or ErrStrip.
func CheckStrip(quire int, s api.Strip) api.Errno {
	return firstOf(verdict(isQuire(quire), api.ErrArg), verdict(isWhole(quire, s), api.ErrStrip))
}

func isWhole(quire int, s api.Strip) bool {
	if !isPlace(s.No) || !within(s.Size, minSize, api.MaxSize) || len(s.Text) != (s.Size+1)/2 || !isPlain(s.Text) {
		return false
	}
	padded := quire == 1 && s.Size%2 == 1
	return !padded || s.Text[len(s.Text)-1] == ' '
}

// Mend returns the text of which two strips are thirds; ErrArg or ErrStrip.
func Mend(quire int, a api.Strip, other int, b api.Strip) (string, api.Errno) {
	if !isQuire(quire) || !isQuire(other) || quire == other {
		return "", api.ErrArg
	}
	if !isWhole(quire, a) || !isWhole(other, b) || a.No != b.No || a.Size != b.Size {
		return "", api.ErrStrip
	}
	var thirds [api.Quires][]byte
	thirds[quire], thirds[other] = bytesOf(a), bytesOf(b)
	return woven(thirds)[:a.Size], api.OK
}

// bytesOf returns a copy of what is written on a strip.
func bytesOf(s api.Strip) []byte {
	l := make([]byte, len(s.Text))
	copy(l, s.Text)
	return l
}

// woven returns the text of which these are the thirds, one of which is missing; with the space at its end, if there is one.
func woven(thirds [api.Quires][]byte) string {
	first, second, third := thirds[0], thirds[1], thirds[2]
	if first == nil {
		first = differences(third, second)
	}
	if second == nil {
		second = differences(third, first)
	}
	var text []byte
	for i := range first {
		text = append(text, first[i], second[i])
	}
	return string(text)
}

// differences returns the third that belongs to another one, if these are their sums.
func differences(sums, other []byte) []byte {
	var third []byte
	for i, z := range sums {
		third = append(third, difference(z, other[i]))
	}
	return third
}
