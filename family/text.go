package family

import (
	"strconv"
	"strings"

	"leazing/api"
)

const maxDigits = 5

// Print returns the text of a kin.
func Print(k api.Kin) (string, api.Errno) {
	if e := Check(k); e != api.OK {
		return "", e
	}
	var text strings.Builder
	for _, list := range entries(k) {
		for _, e := range list {
			word, numbers := e.line()
			text.WriteString(word)
			for _, n := range numbers {
				text.WriteString(" " + strconv.Itoa(n))
			}
			text.WriteString("\n")
		}
	}
	return text.String(), api.OK
}

// Parse reads a text of lines like those of Print.
func Parse(text string) (api.Kin, int, api.Errno) {
	if len(text) > api.MaxKinText {
		return api.Kin{}, 0, api.ErrLong
	}
	var k api.Kin
	line := 0
	for content := range strings.Lines(text) {
		line++
		words := wordsOf(strings.TrimSuffix(content, "\n"))
		if content[0] == '#' || len(words) == 0 {
			continue
		}
		more, ok := read(k, words)
		if !ok {
			return api.Kin{}, line, api.ErrText
		}
		k = more
	}
	if e := Check(k); e != api.OK {
		return api.Kin{}, 0, e
	}
	return k, 0, api.OK
}

func wordsOf(line string) []string {
	return strings.FieldsFunc(line, func(r rune) bool { return r == ' ' })
}

// read returns the kin with what a line says behind the others of its kind; false if it is of the wrong form.
func read(k api.Kin, words []string) (api.Kin, bool) {
	n, ok := numbersOf(words[1:])
	if !ok {
		return api.Kin{}, false
	}
	if words[0] == "offence" && len(n) == 5 {
		k.Offences = append(k.Offences, api.Offence{Source: n[0], Person: n[1], Day: n[2], Known: n[3], Until: n[4]})
		return k, true
	}
	if len(n) != 9 {
		return api.Kin{}, false
	}
	from, till := api.Range{Lo: n[3], Hi: n[4]}, api.Range{Lo: n[5], Hi: n[6]}
	switch words[0] {
	case "stay":
		k.Stays = append(k.Stays, api.Stay{Source: n[0], Person: n[1], Family: n[2], From: from, Till: till, Known: n[7], Until: n[8]})
	case "bond":
		k.Bonds = append(k.Bonds, api.Bond{Source: n[0], Family: n[1], With: n[2], From: from, Till: till, Known: n[7], Until: n[8]})
	case "away":
		k.Aways = append(k.Aways, api.Away{Source: n[0], Person: n[1], By: n[2], From: from, Till: till, Known: n[7], Until: n[8]})
	default:
		return api.Kin{}, false
	}
	return k, true
}

func numbersOf(words []string) ([]int, bool) {
	var numbers []int
	for _, word := range words {
		n, ok := numberOf(word)
		if !ok {
			return nil, false
		}
		numbers = append(numbers, n)
	}
	return numbers, true
}

// numberOf returns the number that a word is; false if it is not written as one.
func numberOf(word string) (int, bool) {
	if len(word) > maxDigits || len(word) > 1 && word[0] == '0' {
		return 0, false
	}
	for _, c := range []byte(word) {
		if c < '0' || c > '9' {
			return 0, false
		}
	}
	n, err := strconv.Atoi(word)
	return n, err == nil
}
