package settle

import "leazing/api"

// paper is a proof that is held against another one of the same person.
type paper api.Proof

// kinds are those of two papers.
type kinds struct{ one, other int }

// rules returns which kinds of papers can be at odds, and when they are.
func rules() map[kinds]func(one, other paper) bool {
	rules := map[kinds]func(one, other paper) bool{
		{api.PfBirth, api.PfBirth}:      paper.bornAgain,
		{api.PfService, api.PfService}:  paper.overlaps,
		{api.PfService, api.PfBound}:    paper.overlaps,
		{api.PfBound, api.PfBound}:      paper.overlaps,
		{api.PfExamined, api.PfService}: paper.seenAway,
		{api.PfExamined, api.PfBound}:   paper.seenAway,
	}
	for other := api.PfBirth + 1; other <= api.PfExamined; other++ {
		rules[kinds{api.PfBirth, other}] = paper.bornAfter
	}
	return rules
}

func (p paper) bornAgain(paper) bool { return true }

func (p paper) bornAfter(other paper) bool { return other.Day < p.Day }

func (p paper) overlaps(other paper) bool {
	return p.Day <= other.Through && other.Day <= p.Through
}

// seenAway reports whether a person was seen elsewhere on one of the days of the other paper.
func (p paper) seenAway(other paper) bool {
	return p.Parish != other.Parish && other.Day <= p.Day && p.Day <= other.Through
}

// oddOnes returns, for each proof, the indices of those before it that are at odds with it if both are of one person.
func oddOnes(l []api.Proof) [][]int {
	rules := rules()
	odd := make([][]int, len(l))
	for i, p := range l {
		for j, q := range l[:i] {
			if atOdds(rules, paper(p), paper(q)) {
				odd[i] = append(odd[i], j)
			}
		}
	}
	return odd
}

func atOdds(rules map[kinds]func(one, other paper) bool, p, q paper) bool {
	if odd := rules[kinds{p.Kind, q.Kind}]; odd != nil && odd(p, q) {
		return true
	}
	odd := rules[kinds{q.Kind, p.Kind}]
	return odd != nil && odd(q, p)
}
