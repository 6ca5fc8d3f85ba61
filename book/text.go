package book

import (
	"strconv"
	"strings"

	"leazing/api"
)

const textNumbers = 7 // that are before the Text of a record

// Encode returns the text of a record; ErrRecord.
func Encode(r api.Record) (string, api.Errno) {
	if e := CheckRecord(r); e != api.OK {
		return "", e
	}
	return textOf(r), api.OK
}

func textOf(r api.Record) string {
	text := ""
	for _, n := range []int{r.At.Parish, r.At.No, r.Kind, r.Day, r.Known, r.Of.Parish, r.Of.No} {
		text += strconv.Itoa(n) + " "
	}
	return text + r.Text
}

// Decode returns the valid record whose text this is; ErrText if there is none.
func Decode(text string) (r api.Record, e api.Errno) {
	defer func() {
		if recover() != nil {
			e = api.ErrText
		}
	}()
	return read(text), api.OK
}

// read returns the valid record whose text this is, and panics if there is none. It writes the record once more, since numbers could also be read that are written with a sign, or with zeros in front.
func read(text string) api.Record {
	var n [textNumbers]int
	rest := text
	for i := range n {
		n[i], rest = readNumber(rest)
	}
	r := api.Record{
		At:    api.Item{Parish: n[0], No: n[1]},
		Kind:  n[2],
		Day:   n[3],
		Known: n[4],
		Of:    api.Item{Parish: n[5], No: n[6]},
		Text:  rest,
	}
	if CheckRecord(r) != api.OK || textOf(r) != text {
		panic(api.ErrText)
	}
	return r
}

// readNumber returns the number before the first space, and what is after it; it panics if there is none.
func readNumber(text string) (int, string) {
	word, rest, _ := strings.Cut(text, " ")
	n, err := strconv.Atoi(word)
	if err != nil {
		panic(api.ErrText)
	}
	return n, rest
}
