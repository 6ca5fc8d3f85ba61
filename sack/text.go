package sack

import (
	"strconv"
	"strings"

	"leazing/api"
)

const maxDigits = 5

// Print returns the text of sacks.
func Print(s api.Sacks) (string, api.Errno) {
	if e := Check(s); e != api.OK {
		return "", e
	}
	var text strings.Builder
	for _, p := range s.Passes {
		text.WriteString(line("pass", p.Source, p.From, p.To, p.Day, p.Gallons.Lo, p.Gallons.Hi, p.Cert, p.Known, p.Until))
	}
	for _, h := range s.Hoards {
		text.WriteString(line("hoard", h.Source, h.Family, h.Day, h.Gallons.Lo, h.Gallons.Hi, h.Known, h.Until))
	}
	return text.String(), api.OK
}

// line returns the line of a word and numbers.
func line(word string, numbers ...int) string {
	for _, n := range numbers {
		word += " " + strconv.Itoa(n)
	}
	return word + "\n"
}

// Parse reads a text of lines like those of Print.
func Parse(text string) (api.Sacks, int, api.Errno) {
	if len(text) > api.MaxSackText {
		return api.Sacks{}, 0, api.ErrLong
	}
	var s api.Sacks
	count := 0
	for content := range strings.Lines(text) {
		count++
		words := wordsOf(strings.TrimSuffix(content, "\n"))
		if content[0] == '#' || len(words) == 0 {
			continue
		}
		more, ok := read(s, words)
		if !ok {
			return api.Sacks{}, count, api.ErrText
		}
		s = more
	}
	if e := Check(s); e != api.OK {
		return api.Sacks{}, 0, e
	}
	return s, 0, api.OK
}

func wordsOf(line string) []string {
	return strings.FieldsFunc(line, func(r rune) bool { return r == ' ' })
}

// read returns the sacks with what a line says behind the others of its kind; false if it is of the wrong form.
func read(s api.Sacks, words []string) (api.Sacks, bool) {
	n, ok := numbersOf(words[1:])
	switch {
	case ok && words[0] == "pass" && len(n) == 9:
		s.Passes = append(s.Passes, api.Pass{Source: n[0], From: n[1], To: n[2], Day: n[3], Gallons: api.Range{Lo: n[4], Hi: n[5]}, Cert: n[6], Known: n[7], Until: n[8]})
	case ok && words[0] == "hoard" && len(n) == 7:
		s.Hoards = append(s.Hoards, api.Hoard{Source: n[0], Family: n[1], Day: n[2], Gallons: api.Range{Lo: n[3], Hi: n[4]}, Known: n[5], Until: n[6]})
	default:
		return api.Sacks{}, false
	}
	return s, true
}

func numbersOf(words []string) ([]int, bool) {
	var numbers []int
	for _, word := range words {
		n, ok := numberOf(word)
		if !ok {
			return nil, false
		}
		numbers = append(numbers, n)
	}
	return numbers, true
}

// numberOf returns the number that a word is; false if it is not written as one.
func numberOf(word string) (int, bool) {
	if len(word) > maxDigits || len(word) > 1 && word[0] == '0' {
		return 0, false
	}
	for _, c := range []byte(word) {
		if c < '0' || c > '9' {
			return 0, false
		}
	}
	n, err := strconv.Atoi(word)
	return n, err == nil
}
