package queen_test

import (
	"math/rand"
	"regexp"
	"slices"
	"strings"
	"testing"

	"leazing/api"
	"leazing/drift"
	"leazing/mill"
	"leazing/queen"
	"leazing/sack"
)

// P10.4: rolls that are accepted, and others.

// free tells whether a command's answer may have other lines behind the first one.
func free(c api.Command) bool { return slices.Contains(list(75, 78, 86), c.Kind) }

var rowForm = regexp.MustCompile(`^(0|-?[1-9][0-9]{0,9})( (0|-?[1-9][0-9]{0,9}))*$`)

// rowOf returns the numbers of a line that has just these; false if it has something else.
func rowOf(line string) ([]int, bool) {
	if !rowForm.MatchString(line) {
		return nil, false
	}
	var l []int
	for _, word := range strings.Split(line, " ") {
		n, is := readNumber(word)
		if !is {
			return nil, false
		}
		l = append(l, n)
	}
	return l, true
}

// asGood tells whether lines behind the first one of the answer to a command are as good as those of the queen, who has a state.
func asGood(s state, c api.Command, lines []string) bool {
	if c.Kind == api.CmdShare {
		return areFairest(s, c.Args[0], lines)
	}
	if len(lines) != 1 {
		return false
	}
	if c.Kind == api.CmdGrind {
		rest, is := strings.CutPrefix(lines[0]+" ", "turns ")
		share, numbers := rowOf(strings.TrimSuffix(rest, " "))
		return is && (numbers || rest == "") && mill.CheckShare(s.setting.Mill, share) == api.OK
	}
	rest, no := strings.CutPrefix(lines[0], "fence no ")
	rest, yes := strings.CutPrefix(rest, "fence yes ")
	numbers, are := rowOf(rest)
	if no == yes || !are || len(numbers)%2 > 0 {
		return false
	}
	f := api.Fence{Over: yes}
	for i := 0; i < len(numbers); i += 2 {
		f.Spots = append(f.Spots, api.Spot{Family: numbers[i], Day: numbers[i+1]})
	}
	b := api.Book{Records: slices.Clone(s.parishes[c.Args[0]].Log)}
	slices.SortFunc(b.Records, func(a, b api.Record) int { return 100*(a.At.Parish-b.At.Parish) + a.At.No - b.At.No })
	return sack.CheckFence(heard(b).sacks, c.Args[1], f) == api.OK
}

// areFairest tells whether lines are the drifts of a fairest sharing.
func areFairest(s state, day int, lines []string) bool {
	g, l := s.setting.Ground, s.setting.Claims
	first := day % len(l)
	l = slices.Concat(l[first:], l[:first])
	least, _ := drift.Least(g, l)
	next, fair := 0, false
	for i, line := range lines {
		n, are := rowOf(line)
		if !are || len(n) != 2 || i == len(l) || n[0] < max(next, l[i].From) || n[1] < n[0] || n[1] > l[i].To {
			return false
		}
		worth := 0
		for _, cell := range g.Cells[n[0] : n[1]+1] {
			worth += cell.Worth
		}
		if worth*least.Den < least.Num*l[i].Heads {
			return false
		}
		fair = true
		next = n[1] + 1
	}
	return fair && len(lines) == len(l)
}

// accepted is what Accept should return of a roll of which Open, Run, and the lines of the script have no error.
func accepted(roll string) (int, api.Errno) {
	lines := strings.SplitAfter(roll, "\n")
	if lines[len(lines)-1] == "" {
		lines = lines[:len(lines)-1]
	}
	q := queen.New()
	for at := 0; at < len(lines); {
		if !strings.HasPrefix(lines[at], "> ") {
			return at + 1, api.ErrSaid // the first line
		}
		c, _, _ := parsed(strings.TrimSpace(lines[at][2:]))
		before := stateOf(q)
		due := q.Do(c)
		at++
		var said []string
		for at+len(said) < len(lines) && strings.HasPrefix(lines[at+len(said)], "< ") {
			said = append(said, strings.TrimSuffix(lines[at+len(said)][2:], "\n"))
		}
		if free(c) && !isRefused(due) && len(said) > 0 && said[0] == due[0] {
			if !asGood(before, c, said[1:]) {
				return at + 2, api.ErrSaid
			}
			due = said
		}
		for i := range max(len(due), len(said)) {
			if i >= len(due) || i >= len(said) || due[i] != said[i] {
				return at + i + 1, api.ErrSaid
			}
		}
		at += len(said)
	}
	if len(lines) > 0 && !strings.HasSuffix(roll, "\n") {
		return len(lines), api.ErrSaid
	}
	return 0, api.OK
}

// checkAccept wants what Accept returns of such a roll, and returns whether it is accepted.
func checkAccept(t *testing.T, roll string) bool {
	t.Helper()
	at, e := accepted(roll)
	wantError(t, roll, at, e)(queen.Accept(roll))
	return e == api.OK
}

// lined returns lines as a roll.
func lined(lines ...string) string { return strings.Join(lines, "\n") + "\n" }

// changes returns other lines than the one of an answer.
func changes(r *rand.Rand, line string) []string {
	said := line[2:]
	all := list(
		"ok", "none", "yes", "no", "maybe", "error 1", "0", "1", "0 0", "", " ", said+" ", " "+said, said+"0", said+" 0", "0"+said, said+"x", "-"+said,
		strings.ReplaceAll(said, " ", "  "), strings.ToUpper(said), strings.ReplaceAll(said, "1", "2"), said[:max(0, len(said)-1)], said+"\r", "+"+said,
	)
	r.Shuffle(len(all), func(i, j int) { all[i], all[j] = all[j], all[i] })
	all = slices.DeleteFunc(all, func(other string) bool { return other == said })
	return all[:6]
}

// TestSpoiltRolls: each line of an answer left out, doubled and changed; all such rolls are refused, unless what is told is free.
func TestSpoiltRolls(t *testing.T) {
	spoilt, good := 0, 0
	rounds(60, 22, func(r *rand.Rand) {
		next := themed(r)
		var all []api.Command
		for range 20 {
			all = append(all, next())
		}
		roll := checkRun(t, scriptOf(all...))
		lines := linesOf(roll)
		at, isFree := 0, false
		for i, line := range lines {
			if line[0] == '>' {
				c, _, _ := parsed(line[2:])
				at, isFree = i, free(c) && !strings.HasPrefix(lines[i+1], "< error")
				continue
			}
			rolls := list(lined(without(lines, i)...), lined(slices.Insert(slices.Clone(lines), i, line)...))
			for _, other := range changes(r, line) {
				rolls = append(rolls, lined(slices.Concat(lines[:i], list("< "+other), lines[i+1:])...))
			}
			for _, roll := range rolls {
				is := checkAccept(t, roll)
				if is && !(isFree && i > at+1) {
					t.Fatalf("%s is accepted, with another line %d", short(roll), i+1)
				}
				spoilt++
				if is {
					good++
				}
			}
		}
	})
	if spoilt < 3000 || good > 40 {
		t.Error("tried:", spoilt, good)
	}
}

// TestMixedRolls: lines of answers that are put elsewhere, and rolls without their last line feed.
func TestMixedRolls(t *testing.T) {
	rounds(61, 45, func(r *rand.Rand) {
		next := themed(r)
		var all []api.Command
		for range 1 + r.Intn(30) {
			all = append(all, next())
		}
		roll := checkRun(t, scriptOf(all...))
		if checkAccept(t, strings.TrimSuffix(roll, "\n")) {
			t.Errorf("%s is accepted without its last line feed", short(roll))
		}
		lines := linesOf(roll)
		for range 30 {
			l := slices.Clone(lines)
			i, j := r.Intn(len(l)), r.Intn(len(l))
			switch r.Intn(4) {
			case 0:
				l[i], l[j] = l[j], l[i]
			case 1:
				l = slices.Insert(l, i, l[j])
			case 2:
				l = without(l, i)
			default:
				l = l[:i]
			}
			text := strings.TrimSuffix(lined(l...), oneOf(r, "", "", "\n"))
			if len(l) > 0 {
				checkAccept(t, text)
			}
		}
	})
}

// TestAcceptErrors: the order of errors, and the lines at which they are.
func TestAcceptErrors(t *testing.T) {
	blanks := strings.Repeat("> blank\n< ok\n", 120)
	long := "> blank" + strings.Repeat(" ", 196)
	for _, c := range []struct {
		name, roll string
		at         int
		e          api.Errno
	}{
		{"right", "> blank\n< ok\n", 0, api.OK},
		{"an answer missing", "> blank\n", 2, api.ErrSaid},
		{"an answer missing, and the line feed", "> blank", 2, api.ErrSaid},
		{"an answer missing before another command", "> blank\n> blank\n< ok\n", 2, api.ErrSaid},
		{"the line feed missing", "> blank\n< ok", 2, api.ErrSaid},
		{"the line feed missing, and the line wrong", "> blank\n< ok\n> records\n< records 0", 5, api.ErrSaid},
		{"one answer more", "> blank\n< ok\n< ok\n> blank\n< ok\n", 3, api.ErrSaid},
		{"one line missing", "> records\n< records 0\n< records 0\n< records 0\n< records 0\n< records 0\n> blank\n< ok\n", 7, api.ErrSaid},
		{"an answer first", "< ok\n> blank\n< ok\n", 1, api.ErrSaid},
		{"answers alone", "< ok\n", 1, api.ErrSaid},
		{"no line of a roll", "> blank\n< ok\nblank\n", 3, api.ErrRoll},
		{"no line of a roll before all", "> nothing\n> #\nok\n", 3, api.ErrRoll},
		{"a line that says nothing", "> blank\n< ok\n> \n< ok\n", 3, api.ErrRoll},
		{"a remark", "> blank\n< ok\n> # blank\n< ok\n", 3, api.ErrRoll},
		{"long remarks", "> blank\n< ok\n> #" + strings.Repeat("x", 300) + "\n> " + strings.Repeat(" ", 300) + "\n", 3, api.ErrRoll},
		{"long spaces", "> blank\n< ok\n> " + strings.Repeat(" ", 300) + "\n", 3, api.ErrRoll},
		{"a space behind", "> blank\n< ok\n> blank \n< ok\n", 3, api.ErrRoll},
		{"a space before", ">  blank\n< ok\n", 1, api.ErrRoll},
		{"two spaces", "> mill 3\n< ok\n> mill  3\n< ok\n", 3, api.ErrRoll},
		{"another form before wrong words", "> nothing\n< ok\n>  blank\n< ok\n", 3, api.ErrRoll},
		{"another form before the wrong answers", "< ok\n> blank\n< no\n> blank \n", 4, api.ErrRoll},
		{"wrong words", "> blank\n< ok\n> blank 1\n> nothing\n", 3, api.ErrWords},
		{"wrong words before wrong answers", "< ok\n> blank\n< no\n> share\n", 4, api.ErrWords},
		{"a long line", "> blank\n< ok\n" + long + "\n> nothing\n", 3, api.ErrLong},
		{"a number of another form", "> mill 03\n< ok\n", 1, api.ErrWords},
		{"many lines", blanks, 0, api.OK},
		{"too many lines", blanks + "> blank\n< ok\n", 0, api.ErrLong},
		{"too many lines, and wrong words", "> nothing\n" + blanks, 0, api.ErrLong},
		{"too many lines, and a remark", blanks + "> #\n", 241, api.ErrRoll},
		{"too many lines, and an answer first", "< ok\n" + blanks + "> blank\n", 0, api.ErrLong},
		{"too many bytes", "> nothing\n> " + strings.Repeat("x", 25000) + "\n", 0, api.ErrLong},
		{"as many bytes as may be", "> " + strings.Repeat("x", 24999) + "\n", 1, api.ErrLong},
		{"one more", "> " + strings.Repeat("x", 25000) + "\n", 0, api.ErrLong},
		{"too many bytes in all", "> blank\n< ok\n" + strings.Repeat("< ok\n", 80000), 0, api.ErrLong},
		{"as many as may be in all", "> blank\n< o" + strings.Repeat("k", 399988) + "\n", 2, api.ErrSaid},
		{"nothing", "", 0, api.OK},
		{"a line feed", "\n", 1, api.ErrRoll},
	} {
		wantError(t, c.name, c.at, c.e)(queen.Accept(c.roll))
	}
	if len("> blank\n< o"+strings.Repeat("k", 399988)+"\n") != 400000 {
		t.Error("another length")
	}
}

// TestFreeLines: which lines behind the first one are accepted, and at which line others are refused.
func TestFreeLines(t *testing.T) {
	ground := "> chain 1 5 6\n< ok\n> cell 1 10 4\n< ok\n> cell 1 10 0\n< ok\n> cell 1 10 2\n< ok\n> claim 7 2 0 2\n< ok\n> claim 8 1 1 2\n< ok\n> share 2\n"
	mill := "> mill 3\n< ok\n> comer 2 3 1\n< ok\n> comer 3 3 1\n< ok\n> grind\n"
	corn := "> pass 0 1 0 0 2 10 20 0\n< record 0 0\n> pass 0 2 0 2 3 10 20 0\n< record 0 1\n> hoard 0 2 0 3 0 5\n< record 0 2\n> hoard 0 1 0 2 0 5\n< record 0 3\n> fence 0 0\n"
	for _, c := range []struct {
		before, said string
		at           int
	}{
		{ground, "gain 2 1|0 0|2 2", 0}, {ground, "gain 2 1|0 1|2 2", 0}, {ground, "gain 2 1|0 0|1 2", 0}, {ground, "gain 2 1|0 0|1 1", 15},
		{ground, "gain 4 2|0 0|2 2", 14}, {ground, "gain 2 1", 15}, {ground, "gain 2 1|0 0", 15}, {ground, "gain 2 1|0 0|2 2|2 2", 15},
		{ground, "gain 2 1|0 0|2 3", 15}, {ground, "gain 2 1|0 0 2 2", 15}, {ground, "gain 2 1|0 0|2 2 ", 15}, {ground, "gain 2 1|0 0|2  2", 15},
		{ground, "gain 2 1|0 0|2 02", 15}, {ground, "gain 2 1|0 0|2 +2", 15}, {ground, "gain 2 1|0 0| 2 2", 15}, {ground, "gain 2 1|2 2|0 0", 15},
		{ground, "gain 2 1|0 0|2", 15}, {ground, "gain 2 1|0 0|2 2 2", 15}, {ground, "gain 2 1|0 0|", 15}, {ground, "gain 2 1|-1 0|2 2", 15},
		{ground, "gain 2 1|0 0|2 1000000001", 15}, {ground, "gain 0 1|0 0|1 1", 14}, {ground, "none", 14}, {ground, "error 47", 14}, {ground, "gain 2 1|0 0|drift 2 2", 15},
		{ground, "gain 2 1|-0 0|2 2", 15}, {ground, "gain 2 1|0 0|2\t2", 15},
		{mill, "level 24|turns 2 3 0", 0}, {mill, "level 24|turns 3 2 0", 0}, {mill, "level 24|turns 2 3", 9}, {mill, "level 24|turns 2 3 0 0", 9},
		{mill, "level 24|turns 2 2 0", 9}, {mill, "level 24|turns 2 0 3", 9}, {mill, "level 24|turns 0 2 0", 9}, {mill, "level 24|turns 2 3 7", 9},
		{mill, "level 24|turns", 9}, {mill, "level 24", 9}, {mill, "level 24|turns 2 3 0|turns 2 3 0", 9}, {mill, "level 1|turns 2 3 0", 8},
		{mill, "level 24|turns  2 3 0", 9}, {mill, "level 24|turns 2 3 0 ", 9}, {mill, "level 24| turns 2 3 0", 9}, {mill, "level 24|2 3 0", 9},
		{mill, "level 24|turns 2 3 00", 9}, {mill, "level 24|turns 2 3 -0", 9}, {mill, "level 24|turns 02 3 0", 9}, {mill, "level 24|Turns 2 3 0", 9},
		{mill, "turns 2 3 0|level 24", 8}, {mill, "level 24|turns 2 3 1000000000000", 9}, {mill, "level 24|", 9}, {mill, "level 24|none", 9}, {mill, "", 8},
		{corn, "contradiction|fence yes 2 1", 0}, {corn, "contradiction|fence yes 3 2", 0}, {corn, "contradiction|fence no 2 1", 11}, {corn, "contradiction|fence yes 2 2", 11},
		{corn, "contradiction|fence yes 2 1 3 2", 0}, {corn, "contradiction|fence yes 3 2 2 1", 11}, {corn, "contradiction|fence yes 2 1 3 1", 11}, {corn, "contradiction|fence yes 2 1 2 1", 11},
		{corn, "contradiction|fence yes 2 1 3", 11}, {corn, "contradiction|fence yes", 11}, {corn, "contradiction|fence no", 11}, {corn, "contradiction|fence", 11},
		{corn, "contradiction|fence maybe 2 1", 11}, {corn, "contradiction|fence 1 2 1", 11}, {corn, "contradiction|fence  yes 2 1", 11}, {corn, "contradiction|fence yes 2  1", 11},
		{corn, "contradiction|fence yes 2 1 ", 11}, {corn, "contradiction|fence yes 2 01", 11}, {corn, "contradiction|fence yes 2 1|fence yes 2 1", 11},
		{corn, "contradiction", 11}, {corn, "contradictions|fence yes 2 1", 10}, {corn, "fence yes 2 1", 10}, {corn, "contradiction|yes 2 1", 11}, {corn, "contradiction|fence yes 2 -1", 11},
		{corn, "contradiction|fence YES 2 1", 11}, {corn, "contradiction|fence yes 0 1", 11}, {corn, "contradiction|fence yes 2 1 2 2 2 3", 11},
	} {
		roll := c.before + "< " + strings.ReplaceAll(c.said, "|", "\n< ") + "\n"
		due := api.OK
		if c.at > 0 {
			due = api.ErrSaid
		}
		wantError(t, roll, c.at, due)(queen.Accept(roll))
		checkAccept(t, roll)
		checkAccept(t, roll+"> blank\n< ok\n")
		checkAccept(t, roll+"> blank\n< no\n")
	}
	// Where the answer is an error, just this is accepted.
	for _, ask := range list("share 0", "fence 0 0", "fence 6 0", "share -1", "fence 0 4167") {
		roll := checkRun(t, ask+"\n")
		for _, more := range list("< 0 0\n", "< turns\n", "< fence no\n", "< "+strings.TrimPrefix(linesOf(roll)[1], "< ")+"\n") {
			wantError(t, roll+more, 3, api.ErrSaid)(queen.Accept(roll + more))
		}
	}
	wantError(t, "no hours", 0, api.OK)(queen.Accept("> grind\n< level 24\n< turns\n"))
	wantError(t, "no hours", 3, api.ErrSaid)(queen.Accept("> grind\n< level 24\n< turns \n"))
	wantError(t, "no hours", 3, api.ErrSaid)(queen.Accept("> grind\n< level 24\n< turns 0\n"))
}

// others returns random lines behind the first one of a free answer: often such that are as good.
func others(r *rand.Rand, c api.Command, lines []string) []string {
	l := slices.Clone(lines)
	switch c.Kind {
	case api.CmdShare:
		for range 1 + r.Intn(2) {
			i := r.Intn(len(l))
			n, _ := rowOf(l[i])
			n[r.Intn(2)] += oneOf(r, -1, 1)
			l[i] = textOf(n...)
		}
	case api.CmdGrind:
		words := strings.Split(l[0], " ")[1:]
		if len(words) > 1 {
			i, j := r.Intn(len(words)), r.Intn(len(words))
			words[i], words[j] = words[j], words[i]
		}
		l[0] = strings.Join(append(list("turns"), words...), " ")
	default:
		numbers, _ := rowOf(strings.Join(strings.Split(l[0], " ")[2:], " "))
		var spots []api.Spot
		for i := 0; i < len(numbers); i += 2 {
			spots = append(spots, api.Spot{Family: numbers[i], Day: numbers[i+1]})
		}
		if r.Intn(2) == 0 {
			spots = append(spots, api.Spot{Family: 1 + r.Intn(4), Day: day(r)})
			slices.SortFunc(spots, func(a, b api.Spot) int { return 10000*(a.Family-b.Family) + a.Day - b.Day })
		} else {
			spots = without(spots, r.Intn(len(spots)))
		}
		l[0] = oneOf(r, "fence yes", "fence no", strings.Join(strings.Split(l[0], " ")[:2], " "))
		for _, x := range spots {
			l[0] += " " + textOf(x.Family, x.Day)
		}
	}
	return l
}

// TestOtherSharings: rolls whose sharings, turns and fences are other ones are accepted exactly if these are as good.
func TestOtherSharings(t *testing.T) {
	good, bad := map[int]int{}, map[int]int{}
	rounds(62, 180, func(r *rand.Rand) {
		theme := oneOf(r, "chain cell cell cell cell cell claim share share share", "mill comer comer comer grind", "pass pass pass hoard hoard fence")
		q, before := queen.New(), ""
		for range 25 {
			c := someCommand(r, oneOf(r, strings.Fields(theme)...))
			due := q.Do(c)
			line, _ := printed(c)
			if free(c) && !isRefused(due) {
				for range 12 {
					other := others(r, c, due[1:])
					roll := before + "> " + line + "\n< " + strings.Join(append(list(due[0]), other...), "\n< ") + "\n"
					is := checkAccept(t, roll)
					if is && !slices.Equal(other, due[1:]) {
						good[c.Kind]++
					} else if !is {
						bad[c.Kind]++
					}
				}
			}
			before += "> " + line + "\n< " + strings.Join(due, "\n< ") + "\n"
		}
	})
	for _, kind := range list(api.CmdShare, api.CmdGrind, api.CmdFence) {
		if good[kind] < 5 || bad[kind] < 100 {
			t.Error("tried:", kind, good, bad)
		}
	}
}

// TestAllSharings: of all lists of drifts of a small ground, and of all lists of turns of a small mill, the ones are accepted that are as good.
func TestAllSharings(t *testing.T) {
	rounds(63, 6, func(r *rand.Rand) {
		before := "> chain 1 5 6\n< ok\n"
		for range 4 {
			before += "> cell 1 1 " + textOf(r.Intn(4)) + "\n< ok\n"
		}
		before += "> claim 1 1 0 3\n< ok\n> claim 2 " + textOf(1+r.Intn(2)) + " 0 3\n< ok\n> share 0\n"
		due, _, _ := queen.Run(strings.ReplaceAll(strings.ReplaceAll(before, "< ok\n", ""), "> ", ""))
		gain := linesOf(due)[7]
		good := 0
		for n := range 5 * 5 * 5 * 5 {
			roll := before + "< " + gain + "\n< " + textOf(n%5, n/5%5) + "\n< " + textOf(n/25%5, n/125) + "\n"
			if checkAccept(t, roll) {
				good++
			}
		}
		if good < 1 || good > 60 {
			t.Error("tried:", good)
		}
	})
	before := "> mill 4\n< ok\n> comer 1 7 2\n< ok\n> comer 2 14 1\n< ok\n> grind\n< level 24\n< turns"
	good := 0
	for n := range 256 {
		roll := before + " " + textOf(n%4, n/4%4, n/16%4, n/64) + "\n"
		if checkAccept(t, roll) {
			good++
		}
	}
	if good != 5 { // 1 and 2 have two and one of the hours 0 1 2 and 1 2 3
		t.Error("tried:", good)
	}
}
