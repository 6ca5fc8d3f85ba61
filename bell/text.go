package bell

import (
	"strconv"
	"strings"

	"leazing/api"
)

const maxNumber = 99999 // of those with at most 5 digits

// Print returns the text of strokes; ErrStroke.
func Print(l []api.Stroke) (string, api.Errno) {
	if !areStrokes(l) {
		return "", api.ErrStroke
	}
	var text strings.Builder
	for _, s := range l {
		text.WriteString(lineOf(s))
	}
	return text.String(), api.OK
}

func lineOf(s api.Stroke) string {
	switch s.Kind {
	case api.SkTally:
		return line("tally", s.Field, s.Other, s.No)
	case api.SkWants:
		return line("wants", s.Field, s.No)
	case api.SkAsked:
		return line("asked", s.Field, s.Other, s.No)
	}
	return line("bell", s.Field, s.No)
}

// line returns the line of a word and numbers.
func line(word string, numbers ...int) string {
	for _, n := range numbers {
		word += " " + strconv.Itoa(n)
	}
	return word + "\n"
}

// Parse reads the text of strokes; ErrLong, ErrText with the number of a line, or ErrStroke.
func Parse(text string) (strokes []api.Stroke, wrong int, e api.Errno) {
	if len(text) > api.MaxWatched {
		return nil, 0, api.ErrLong
	}
	at := 0
	defer func() {
		if recover() != nil {
			strokes, wrong, e = nil, at, api.ErrText
		}
	}()
	for content := range strings.Lines(text) {
		at++
		words := wordsOf(strings.TrimSuffix(content, "\n"))
		if content[0] != '#' && len(words) > 0 {
			strokes = append(strokes, strokeOf(words))
		}
	}
	if !areStrokes(strokes) {
		return nil, 0, api.ErrStroke
	}
	return strokes, 0, api.OK
}

func wordsOf(line string) []string {
	return strings.FieldsFunc(line, func(r rune) bool { return r == ' ' })
}

// strokeOf returns the stroke that the words of a line say, and panics if they are of the wrong form.
func strokeOf(words []string) api.Stroke {
	n := numbersOf(words[1:])
	switch {
	case words[0] == "tally" && len(n) == 3:
		return api.Stroke{Kind: api.SkTally, Field: n[0], Other: n[1], No: n[2]}
	case words[0] == "wants" && len(n) == 2:
		return api.Stroke{Kind: api.SkWants, Field: n[0], No: n[1]}
	case words[0] == "asked" && len(n) == 3:
		return api.Stroke{Kind: api.SkAsked, Field: n[0], Other: n[1], No: n[2]}
	case words[0] == "bell" && len(n) == 2:
		return api.Stroke{Kind: api.SkBell, Field: n[0], No: n[1]}
	}
	panic(api.ErrText)
}

// numbersOf returns the numbers that words are. It writes each one once more, since numbers could also be read that are written with a sign, or with zeros in front.
func numbersOf(words []string) []int {
	var numbers []int
	for _, word := range words {
		n, err := strconv.Atoi(word)
		if err != nil || !within(n, 0, maxNumber) || strconv.Itoa(n) != word {
			panic(api.ErrText)
		}
		numbers = append(numbers, n)
	}
	return numbers
}
