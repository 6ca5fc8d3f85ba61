package queen

import (
	"strings"

	"leazing/api"
)

// refused is the word with which the answer begins of a command that is refused.
const refused = "error"

// refusal returns the answer of a command that left by a panic.
func refusal(wrong any) []string {
	e, _ := wrong.(api.Errno)
	return answer(line(refused, int(e)))
}

// isRefusal reports whether an answer is that of a command that is refused.
func isRefusal(lines []string) bool {
	return len(lines) > 0 && strings.HasPrefix(lines[0], refused+" ")
}

// answer returns the one that has these lines.
func answer(lines ...string) []string { return lines }

// done is the answer of a command that has nothing else to say.
func done() []string { return answer("ok") }

// listed returns the answer that is a list of numbers.
func listed(numbers []int) []string {
	if len(numbers) == 0 {
		return answer("none")
	}
	return answer(row(numbers...))
}

// bounds returns the answer that is a range.
func bounds(r api.Range) []string { return answer(row(r.Lo, r.Hi)) }

// wordFor returns the word for an answer of the layers.
func wordFor(answer int) string {
	switch answer {
	case api.Yes:
		return "yes"
	case api.No:
		return "no"
	}
	return "maybe"
}

// truth returns the answer of the layers that stands for a truth.
func truth(is bool) int {
	if is {
		return api.Yes
	}
	return api.No
}
