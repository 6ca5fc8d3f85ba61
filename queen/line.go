package queen

import (
	"strconv"
	"strings"

	"leazing/api"
)

func within(n, lo, hi int) bool { return lo <= n && n <= hi }

// numberOf returns the number that a word is; false if it is none, or one that no line may have. It writes the number once more, since one could also be read that has a plus sign, or zeros in front.
func numberOf(word string) (int, bool) {
	n, err := strconv.Atoi(word)
	return n, err == nil && strconv.Itoa(n) == word && isNumber(n)
}

func isNumber(n int) bool { return within(n, -api.MaxNumber, api.MaxNumber) }

// numbersOf returns the numbers that words are; false if one of them is none.
func numbersOf(words []string) ([]int, bool) {
	var numbers []int
	for _, word := range words {
		n, is := numberOf(word)
		if !is {
			return nil, false
		}
		numbers = append(numbers, n)
	}
	return numbers, true
}

// row returns numbers as they are written in a line.
func row(numbers ...int) string {
	var words []string
	for _, n := range numbers {
		words = append(words, strconv.Itoa(n))
	}
	return strings.Join(words, " ")
}

// line returns the line of a word and numbers.
func line(word string, numbers ...int) string {
	if len(numbers) == 0 {
		return word
	}
	return word + " " + row(numbers...)
}

func wordsOf(line string) []string {
	return strings.FieldsFunc(line, func(r rune) bool { return r == ' ' })
}

// saysNothing reports whether a line has no words, or is a remark.
func saysNothing(line string) bool {
	return strings.HasPrefix(line, "#") || len(wordsOf(line)) == 0
}

// Parse reads a line; ErrLong, or ErrWords with the index of a word.
func Parse(line string) (api.Command, int, api.Errno) {
	if len(line) > api.MaxLine {
		return api.Command{}, 0, api.ErrLong
	}
	if saysNothing(line) {
		return api.Command{}, 0, api.ErrWords
	}
	words := wordsOf(line)
	f, found := formNamed(words[0])
	if !found {
		return api.Command{}, 0, api.ErrWords
	}
	c := api.Command{Kind: f.kind}
	for i, word := range words[1:] {
		n, is := numberOf(word)
		if !is || i == f.count() {
			return api.Command{}, i + 1, api.ErrWords
		}
		c.Args = append(c.Args, n)
	}
	if len(c.Args) < f.count() {
		return api.Command{}, len(words), api.ErrWords
	}
	return c, 0, api.OK
}

// Print returns the line of a command; ErrWords if it is not right.
func Print(c api.Command) (string, api.Errno) {
	f, right := rightForm(c)
	if !right {
		return "", api.ErrWords
	}
	return line(f.words()[0], c.Args...), api.OK
}

// rightForm returns the form of a command; false if the command is not right.
func rightForm(c api.Command) (form, bool) {
	f, found := formOf(c.Kind)
	right := found && len(c.Args) == f.count()
	for _, n := range c.Args {
		right = right && isNumber(n)
	}
	return f, right
}
