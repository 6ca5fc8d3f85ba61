package queen

import (
	"slices"
	"strings"

	"leazing/api"
	"leazing/drift"
	"leazing/mill"
	"leazing/sack"
)

// What is told by some commands behind the first line of their answer may be something else that is as good.

const (
	turnsWord = "turns"
	fenceWord = "fence"
)

// free returns the function that reports whether the lines behind the first one of the command's answer are as good as those that are told; false if these have to be the same.
func (d doing) free() (func(lines []string) bool, bool) {
	checks := map[int]func(lines []string) bool{
		api.CmdShare: d.areDrifts,
		api.CmdGrind: d.areTurns,
		api.CmdFence: d.isFence,
	}
	check, found := checks[d.Kind]
	return check, found
}

// areDrifts reports whether lines have the drifts of a fairest sharing.
func (d doing) areDrifts(lines []string) bool {
	var drifts []api.Drift
	for _, line := range lines {
		n, are := numbersOf(strings.Split(line, " "))
		if !are || len(n) != 2 {
			return false
		}
		drifts = append(drifts, api.Drift{From: n[0], To: n[1]})
	}
	ground, claims := d.setting.Ground, d.claims()
	if drift.CheckDrifts(ground, claims, drifts) != api.OK {
		return false
	}
	gains := must(drift.Gains(ground, claims, drifts))
	return compareGains(slices.MinFunc(gains, compareGains), must(drift.Least(ground, claims))) == 0
}

// compareGains compares gains that are valid.
func compareGains(a, b api.Gain) int { return must(drift.Compare(a, b)) }

// areTurns reports whether lines are one that has a sharing of the mill's hours which serves those of the comers.
func (d doing) areTurns(lines []string) bool {
	words := wordsOfOne(lines)
	if len(words) == 0 || words[0] != turnsWord {
		return false
	}
	share, are := numbersOf(words[1:])
	return are && mill.CheckShare(d.setting.Mill, share) == api.OK
}

// isFence reports whether lines are one that has a fence by which sacks contradict each other.
func (d doing) isFence(lines []string) bool {
	words := wordsOfOne(lines)
	if len(words) < 2 || words[0] != fenceWord {
		return false
	}
	f := api.Fence{Over: words[1] == wordFor(api.Yes)}
	numbers, are := numbersOf(words[2:])
	if !are || len(numbers)%2 != 0 || words[1] != wordFor(truth(f.Over)) {
		return false
	}
	for spot := range slices.Chunk(numbers, 2) {
		f.Spots = append(f.Spots, api.Spot{Family: spot[0], Day: spot[1]})
	}
	return sack.CheckFence(d.sacks(), d.known(), f) == api.OK
}

// wordsOfOne returns the words of just one line, which one space parts; none, if there is not just one.
func wordsOfOne(lines []string) []string {
	if len(lines) != 1 {
		return nil
	}
	return strings.Split(lines[0], " ")
}
