package queen

import (
	"strings"

	"leazing/api"
)

// Open returns the script and the answers of a roll; ErrLong, or ErrRoll with the number of a line.
func Open(roll string) (text, told string, line int, e api.Errno) {
	if len(roll) > api.MaxRoll {
		return "", "", 0, api.ErrLong
	}
	var script, answers strings.Builder
	for no, content := range lines(roll) {
		asked, isAsked := strings.CutPrefix(content, asks)
		said, isSaid := strings.CutPrefix(content, tells)
		switch {
		case isAsked:
			script.WriteString(written("", asked))
		case isSaid:
			answers.WriteString(written("", said))
		default:
			return "", "", no, api.ErrRoll
		}
	}
	return script.String(), answers.String(), 0, api.OK
}

// passage is a line of the script in a roll, with its number there, and the lines of its answer.
type passage struct {
	no   int
	line string
	said []string
}

// passagesOf returns those of what Open takes as a roll; the lines before the first one are in none of them.
func passagesOf(roll string) []passage {
	var all []passage
	for no, line := range lines(roll) {
		asked, isAsked := strings.CutPrefix(line, asks)
		switch {
		case isAsked:
			all = append(all, passage{no: no, line: asked})
		case len(all) > 0:
			last := &all[len(all)-1]
			last.said = append(last.said, strings.TrimPrefix(line, tells))
		}
	}
	return all
}

// isStrange reports whether the line says nothing, or is not the one that Print returns of its command.
func (p passage) isStrange() bool {
	c, _, e := Parse(p.line)
	printed, _ := Print(c)
	return saysNothing(p.line) || e == api.OK && printed != p.line
}

// Accept checks a roll; the errors of Open, ErrRoll, those of Run, or ErrSaid, with the number of a line.
func Accept(roll string) (int, api.Errno) {
	text, _, no, e := Open(roll)
	if e != api.OK {
		return no, e
	}
	passages := passagesOf(roll)
	if strange, has := find(passages, passage.isStrange); has {
		return strange.no, api.ErrRoll
	}
	commands, no, e := commandsOf(text)
	if no > 0 {
		no = passages[no-1].no
	}
	if e != api.OK {
		return no, e
	}
	no = wrongLine(roll, passages, commands)
	return no, verdict(no == 0, api.ErrSaid)
}

// wrongLine returns the number of the first line that is wrong in a roll with these passages, and their commands; 0 if none is.
func wrongLine(roll string, passages []passage, commands []api.Command) int {
	if strings.HasPrefix(roll, tells) {
		return 1
	}
	q := New()
	for i, p := range passages {
		if right, wrong := q.judge(commands[i], p.said); !right {
			return p.no + 1 + wrong
		}
	}
	if roll != "" && !strings.HasSuffix(roll, "\n") {
		return strings.Count(roll, "\n") + 1
	}
	return 0
}

// judge does a command and reports whether lines are its answer, or one that is as good; if they are not, it returns the index of the first one that is wrong.
func (q *Queen) judge(c api.Command, said []string) (bool, int) {
	due := q.Do(c)
	same := sameLines(due, said)
	isAsGood, free := doing{q, c}.free()
	if !free || isRefusal(due) || same == 0 {
		return same == len(due) && same == len(said), same
	}
	return isAsGood(said[1:]), 1
}

// sameLines returns how many lines two answers have in common, from the first one on.
func sameLines(a, b []string) int {
	n := 0
	for n < len(a) && n < len(b) && a[n] == b[n] {
		n++
	}
	return n
}
