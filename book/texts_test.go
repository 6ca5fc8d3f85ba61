package book_test

import (
	"math/rand"
	"strings"
	"testing"

	"leazing/api"
	"leazing/book"
)

// P8.1: texts of records, and others.

const longest = "5 9999 60 4166 4166 0 0 " // and 160 bytes

func TestEncode(t *testing.T) {
	for _, c := range []struct {
		r    api.Record
		text string
	}{
		{api.Record{Kind: 1}, "0 0 1 0 0 0 0 "},
		{api.Record{Kind: 1, Text: " "}, "0 0 1 0 0 0 0  "},
		{api.Record{Kind: 1, Text: "  7 8"}, "0 0 1 0 0 0 0   7 8"},
		{api.Record{At: item(0, 1)}, "0 1 0 0 0 0 0 "},
		{aWithdrawal(), "3 70 0 0 12 3 69 "},
		{aRecord(), "3 70 5 10 12 0 0 a key"},
		{api.Record{At: item(5, 9999), Known: 4166, Of: item(5, 9998)}, "5 9999 0 0 4166 5 9998 "},
		{api.Record{At: item(5, 9999), Kind: 60, Day: 4166, Known: 4166, Text: strings.Repeat("~", 160)}, longest + strings.Repeat("~", 160)},
	} {
		want(t, c.r, c.text, api.OK)(book.Encode(c.r))
		want(t, c.text, c.r, api.OK)(book.Decode(c.text))
	}
}

// TestTextsOfAnyRecords: Decode of Encode is the record.
func TestTextsOfAnyRecords(t *testing.T) {
	short, long := 0, 0
	rounds(10, 20000, func(r *rand.Rand) {
		x := record(r, anyItem(r))
		text := must[string](t, x)(book.Encode(x))
		want(t, x, textOf(x), api.OK)(text, api.OK)
		want(t, text, x, api.OK)(book.Decode(text))
		if len(text) == 14 {
			short++
		}
		if len(x.Text) == 160 {
			long++
		}
	})
	if short < 10 || long < 500 {
		t.Error("tried:", short, long)
	}
}

// checkText wants Decode to return the record of a text, if it is one of a record.
func checkText(t *testing.T, text string) {
	t.Helper()
	x, isOne := recordOf(text)
	want(t, text, x, verdict(isOne, api.ErrText))(book.Decode(text))
	if isOne {
		want(t, x, text, api.OK)(book.Encode(x))
	}
}

func TestWrongTexts(t *testing.T) {
	for _, text := range []string{
		"", " ", "0", "0 0 1 0 0 0 0", "0 0 1 0 0 0", "0 0 1 0 0 0 ", " 0 0 1 0 0 0 0 ", "0 0 1 0 0  0 ", "0  0 1 0 0 0 0 ",
		"00 0 1 0 0 0 0 ", "0 00 1 0 0 0 0 ", "0 0 01 0 0 0 0 ", "0 0 1 00 0 0 0 ", "0 0 1 0 00 0 0 ", "0 0 1 0 0 00 0 ", "0 0 1 0 0 0 00 ",
		"+0 0 1 0 0 0 0 ", "-0 0 1 0 0 0 0 ", "0 +0 1 0 0 0 0 ", "0 0 +1 0 0 0 0 ", "0 0 1 -0 0 0 0 ", "0 0 1 0 -1 0 0 ", "0 0 1 0 0 0 -0 ",
		"0x0 0 1 0 0 0 0 ", "0 0 1_0 0 0 0 0 ", "0 0 1. 0 0 0 0 ", "0 0 1e0 0 0 0 0 ", "0 0 a 0 0 0 0 ", "0 0 ١ 0 0 0 0 ",
		"0\t0 1 0 0 0 0 ", "0 0 1 0 0 0 0\t", "0 0 1 0 0 0 0 \n", "0 0 1 0 0 0 0 \x00", "0 0 1 0 0 0 0 é", "0 0 1 0 0 0 0 \x7f", "0 0 1 0 0 0 0 \x1f",
		"6 0 1 0 0 0 0 ", "0 10000 1 0 0 0 0 ", "0 0 61 0 0 0 0 ", "0 0 1 4167 0 0 0 ", "0 0 1 0 4167 0 0 ", "0 0 1 0 0 1 0 ", "0 0 1 0 0 0 1 ",
		"0 0 0 0 0 0 0 ", "0 1 0 0 0 0 1 ", "0 1 0 0 0 1 0 ", "0 1 0 1 0 0 0 ", "0 1 0 0 0 0 0 a", "0 1 0 0 0 0 0  ", "1 1 0 0 0 0 0 ",
		"18446744073709551616 0 1 0 0 0 0 ", "0 0 18446744073709551617 0 0 0 0 ", "0 0 4294967297 0 0 0 0 ", "99999999999999999999999999 0 1 0 0 0 0 ",
		longest + strings.Repeat("~", 161), "0 0 1 0 0 0 0 " + strings.Repeat(" ", 161), strings.Repeat("0", 1000000), strings.Repeat(" ", 1000000), strings.Repeat("0 ", 1000000),
		strings.Repeat("9", 1000000) + " 0 1 0 0 0 0 ", "0 0 1 0 0 0 0 " + strings.Repeat("a", 1000000),
	} {
		want(t, text, api.Record{}, api.ErrText)(book.Decode(text))
		if _, isOne := recordOf(text); isOne {
			t.Errorf("%q is the text of a record", text)
		}
	}
}

// TestOneByte: all texts that differ from that of a record by one byte, which is another one, too many, or missing.
func TestOneByte(t *testing.T) {
	for _, text := range []string{
		keyText, "0 0 1 0 0 0 0 ", "0 1 0 0 0 0 0 ", "3 70 0 0 12 3 69 ", "5 9999 60 4166 4166 0 0 ", "5 9999 0 0 4166 5 9998 ", "1 10 10 10 10 0 0  ~ ", "4 1000 9 999 1000 0 0 12",
		longest + strings.Repeat("~", 160), longest + strings.Repeat(" ", 159),
	} {
		checkText(t, text)
		for i := range len(text) + 1 {
			for b := range 256 {
				c := string([]byte{byte(b)})
				checkText(t, text[:i]+c+text[i:])
				if i < len(text) {
					checkText(t, text[:i]+c+text[i+1:])
				}
			}
			if i < len(text) {
				checkText(t, text[:i]+text[i+1:])
			}
		}
	}
}

// TestAnyTexts: texts of numbers that are often of a record, and of other words.
func TestAnyTexts(t *testing.T) {
	right := 0
	rounds(11, 20000, func(r *rand.Rand) {
		var words []string
		for _, most := range []string{"5", "9999", "60", "4166", "4166", "5", "9999"} {
			words = append(words, oneOf(r, "0", "0", "0", "1", "2", "3", most, most, most+"0"))
		}
		if r.Intn(4) > 0 {
			words[5], words[6] = "0", "0"
		}
		if r.Intn(3) == 0 {
			words[r.Intn(7)] = oneOf(r, "", "-1", "00", "6", "61", "4167", "10000", "a", "9999999999")
		}
		text := strings.Join(words, " ") + oneOf(r, "", " ", " ", "  ", " a key", " "+text(r))
		if _, isOne := recordOf(text); isOne {
			right++
		}
		checkText(t, text)
	})
	if right < 2000 || right > 18000 {
		t.Error("tried:", right)
	}
}
