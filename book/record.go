package book

import (
	"cmp"

	"leazing/api"
)

const (
	firstByte = ' ' // of those that texts may have
	lastByte  = '~'
)

func within(n, lo, hi int) bool { return lo <= n && n <= hi }

func isParish(n int) bool { return within(n, 0, api.MaxParishes-1) }

func isDay(n int) bool { return within(n, 0, api.MaxDay) }

func isItem(i api.Item) bool { return isParish(i.Parish) && within(i.No, 0, api.MaxNo) }

// CheckRecord returns OK for a valid record, and otherwise ErrRecord.
func CheckRecord(r api.Record) api.Errno {
	right := isItem(r.At) && within(r.Kind, 0, api.MaxKind) && isDay(r.Day) && isDay(r.Known)
	return verdict(right && isText(r.Text) && suitsKind(r), api.ErrRecord)
}

// isText reports whether a record may have a text.
func isText(text string) bool { return len(text) <= api.MaxText && isPlain(text) }

// isPlain reports whether a text has only bytes that texts may have.
func isPlain(text string) bool {
	for _, c := range []byte(text) {
		if c < firstByte || c > lastByte {
			return false
		}
	}
	return true
}

// suitsKind reports whether a record has what its kind demands.
func suitsKind(r api.Record) bool {
	if r.Kind != api.RecWithdraw {
		return r.Of == api.Item{}
	}
	earlier := isItem(r.Of) && r.Of.Parish == r.At.Parish && r.Of.No < r.At.No
	return earlier && r.Day == 0 && r.Text == ""
}

// verdict returns OK if something is right, and otherwise an error.
func verdict(right bool, wrong api.Errno) api.Errno {
	if right {
		return api.OK
	}
	return wrong
}

// firstOf returns the first error of some results, or OK.
func firstOf(results ...api.Errno) api.Errno { return cmp.Or(results...) }
