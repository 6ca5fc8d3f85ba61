package queen

import (
	"iter"
	"strings"

	"leazing/api"
)

const (
	asks  = "> " // before a line of the script in a roll
	tells = "< " // before a line of an answer
)

// lines yields the lines of a text, with their numbers.
func lines(text string) iter.Seq2[int, string] {
	return func(yield func(int, string) bool) {
		no := 0
		for line := range strings.Lines(text) {
			no++
			if !yield(no, strings.TrimSuffix(line, "\n")) {
				return
			}
		}
	}
}

// saying yields those of them that say something.
func saying(text string) iter.Seq2[int, string] {
	return func(yield func(int, string) bool) {
		for no, line := range lines(text) {
			if !saysNothing(line) && !yield(no, line) {
				return
			}
		}
	}
}

// commandsOf returns the commands of a script; ErrLong, or an error of Parse with the number of a line.
func commandsOf(text string) ([]api.Command, int, api.Errno) {
	many := 0
	for range saying(text) {
		many++
	}
	if len(text) > api.MaxScript || many > api.MaxLines {
		return nil, 0, api.ErrLong
	}
	var commands []api.Command
	for no, line := range saying(text) {
		c, _, e := Parse(line)
		if e != api.OK {
			return nil, no, e
		}
		commands = append(commands, c)
	}
	return commands, 0, api.OK
}

// played yields commands, and the answers of a new queen who does them one after the other.
func played(commands []api.Command) iter.Seq2[api.Command, []string] {
	return func(yield func(api.Command, []string) bool) {
		q := New()
		for _, c := range commands {
			if !yield(c, q.Do(c)) {
				return
			}
		}
	}
}

// written returns lines as they are written, with the same before each of them.
func written(before string, lines ...string) string {
	var text strings.Builder
	for _, line := range lines {
		text.WriteString(before + line + "\n")
	}
	return text.String()
}

// Run returns the answers of a script; ErrLong, or an error of Parse with the number of a line.
func Run(text string) (string, int, api.Errno) {
	commands, no, e := commandsOf(text)
	if e != api.OK {
		return "", no, e
	}
	var told strings.Builder
	for _, answer := range played(commands) {
		told.WriteString(written("", answer...))
	}
	return told.String(), 0, api.OK
}

// Roll returns the roll of a script; the errors of Run, and ErrLong.
func Roll(text string) (string, int, api.Errno) {
	commands, no, e := commandsOf(text)
	if e != api.OK {
		return "", no, e
	}
	var roll strings.Builder
	for c, answer := range played(commands) {
		line, _ := Print(c)
		roll.WriteString(written(asks, line) + written(tells, answer...))
	}
	if roll.Len() > api.MaxRoll {
		return "", 0, api.ErrLong
	}
	return roll.String(), 0, api.OK
}
