package text_test

import (
	"fmt"
	"strings"
	"testing"

	"quadrivium/api"
	"quadrivium/text"
)

// TestNumbers: P9.3 and P9.4: words that are numbers, and words that are none, in all places where numbers stand.
func TestNumbers(t *testing.T) {
	places := []string{"course # of 1:A", "# credits 0 of 1:A", "1 credits # of 1:A", "# some (course 0 of 1:A)", "all (course # of 1:A)", "course 0 of #:A"}
	for _, word := range []string{"0", "1", "-1", "9", "10", "-10", "50", "123456789", "-123456789", "999999999", "-999999999", "100000000", "-100000000", "987654321"} {
		for _, place := range places {
			if err := compareNeed(t, strings.ReplaceAll(place, "#", word)); err == api.ErrForm {
				t.Errorf("%q is no number in %q", word, place)
			}
		}
		for i := range 8 {
			if err := compareAll(t, withNumber(i, word)); err == api.ErrForm {
				t.Errorf("%q is no number in the place %d", word, i)
			}
		}
	}
	for _, word := range []string{
		"", "-", "--", "-0", "00", "-00", "000", "050", "-050", "01", "-01", "--1", "1-", "-1-", "1-1", "1--1", "- 1", "+1", "+0", "1.0", "1,0", "1_0", "1e1", "0x1", "0b1", "x", "1x", "x1", "a", "-a", "of", ":1", `"1"`, "(1)", "#", "٣", "１", "½", "\x001", "1\x00",
		"1000000000", "-1000000000", "1234567890", "-1234567890", "9999999999", "0123456789", "000000001", "0000000001", "-0123456789", "2147483648", "4294967296", "4294967297", "9223372036854775807", "-9223372036854775808", "9223372036854775808", "18446744073709551616", "18446744073709551617", strings.Repeat("9", 3000), strings.Repeat("0", 3000), strings.Repeat("-", 3000), "1" + strings.Repeat("0", 3000),
	} {
		for _, place := range places {
			s := strings.ReplaceAll(place, "#", word)
			refuseNeed(t, s, api.ErrForm)
			compareNeed(t, s)
		}
		for i := range 8 {
			s := withNumber(i, word)
			refuseAll(t, s, api.ErrForm)
			compareAll(t, s)
		}
	}
}

// withNumber are the lines of arts with this word in place of the number i, or of a School.
func withNumber(i int, word string) string {
	l := []any{"3", "41", "2", "500", "60", "30", "6", "1"}
	l[i] = word
	return fmt.Sprintf("programme %s %s version %s from %s \"Arts\"\ntotal %s own %s age %s\nexclude %s:A 2:B\nneed course 50 of 1:A\n", l...)
}

// TestCourses: P9.3 and P9.4: words that are courses, right or not, and words that are none.
func TestCourses(t *testing.T) {
	places := []string{"course 0 of #", "course 0 of 1:A #", "1 credits 0 of #", "all (course 0 of #)"}
	for word, want := range map[string]api.Course{
		"1:B": {School: 1, Code: "B"}, "8:0": {School: 8, Code: "0"}, "8:ABCDEFGH": {School: 8, Code: "ABCDEFGH"}, "2:007": {School: 2, Code: "007"}, "3:12345678": {School: 3, Code: "12345678"},
	} {
		readNeed(t, "course 0 of "+word, api.Need{Kind: api.NeedCourse, Set: []api.Course{want}})
		readNeed(t, "all(5 credits 7 of "+word+")", every(api.Need{Kind: api.NeedCredits, N: 5, Min: 7, Set: []api.Course{want}}))
		readAll(t, strings.ReplaceAll(artsText, "2:B2 2:D", "1:A "+word), changed(func(p *api.Programme) { p.Exclude[1] = [2]api.Course{{School: 1, Code: "A"}, want} }))
	}
	for _, word := range []string{"1:", "0:A", "-1:A", "9:A", "-9:", "0:", "999999999:A", "-999999999:A", "1:a", "1:A:", "1::", "1::A", "1:A:B", "1:1:1", "1:-", "1:-1", "1:A-B", "1:ABCDEFGHI", "1:course", "1:of", "1:" + strings.Repeat("A", 3000), "1" + strings.Repeat(":", 3000)} {
		for _, place := range places {
			s := strings.ReplaceAll(place, "#", word)
			refuseNeed(t, s, api.ErrArg)
			compareNeed(t, s)
		}
		for _, place := range []string{"1:A #", "# 8:Z"} {
			s := strings.ReplaceAll(artsText, "2:B2 2:D", place)
			s = strings.ReplaceAll(s, "#", word)
			refuseAll(t, s, api.ErrArg)
			compareAll(t, s)
		}
	}
	for _, word := range []string{"A", "1A", "A1", "1", "11", "-1", ":", "::", ":A", ":1", ":1:A", "-:A", "a:A", "A:1", "1a:A", "01:A", "00:A", "-0:A", "-01:A", "001:A", "1-:A", "--1:A", "1-1:A", "1000000000:A", "-1000000000:A", "18446744073709551617:A", "+1:A", "1.:A", "1;A", "1 :A", "1.A", "(1:A)", `"1:A"`, "1:A,", "1,A", "_1:A", "1:_", "1:A_", "1:É", "1:\x00", "1:A\x00", "1:\xff", "1:\t", "\t1:B", "1:B\r"} {
		for _, place := range places {
			s := strings.ReplaceAll(place, "#", word)
			refuseNeed(t, s, api.ErrForm)
			compareNeed(t, s)
		}
		for _, place := range []string{"1:A #", "# 8:Z"} {
			s := strings.ReplaceAll(artsText, "2:B2 2:D", place)
			s = strings.ReplaceAll(s, "#", word)
			refuseAll(t, s, api.ErrForm)
			compareAll(t, s)
		}
	}
}

// TestStrings: P9.4: strings of all bytes, empty ones, and ones that are not closed.
func TestStrings(t *testing.T) {
	in := func(name string) string { return strings.ReplaceAll(artsText, `"Arts and (more); 7"`, name) }
	for b := range 256 {
		for _, part := range []string{"#", "a#", "#a", "a#a", " # ", "##"} {
			name := strings.ReplaceAll(part, "#", string([]byte{byte(b)}))
			s := in(`"` + name + `"`)
			if b < 32 || b > 126 || b == '"' {
				refuseAll(t, s, api.ErrForm)
			} else {
				readAll(t, s, changed(func(p *api.Programme) { p.Name = name }))
			}
			compareAll(t, s)
		}
	}
	for s, want := range map[string]api.Errno{
		in(`""`): api.ErrArg, in(`"` + strings.Repeat("n", 41) + `"`): api.ErrArg, in(`"` + strings.Repeat(" ", 3000) + `"`): api.ErrArg, in(`"` + strings.Repeat("n", 4000) + `"`): api.ErrMany,
		in(``): api.ErrForm, in(`"`): api.ErrForm, in(`"""`): api.ErrForm, in(`""""`): api.ErrForm, in(`"a" "b"`): api.ErrForm, in(`"a""b"`): api.ErrForm, in(`"a`): api.ErrForm, in(`a"`): api.ErrForm, in(`a`): api.ErrForm, in(`'a'`): api.ErrForm, in(`5`): api.ErrForm, in(`1:A`): api.ErrForm, in(`(`): api.ErrForm, in(`("a")`): api.ErrForm, in(`"a"b`): api.ErrForm, in(`b"a"`): api.ErrForm, in("\"a\nb\""): api.ErrForm, in(`"\""`): api.ErrForm, in(`"é"`): api.ErrForm, in("`a`"): api.ErrForm, in(`;"a"`): api.ErrForm,
		artsText + `"`: api.ErrForm, artsText + `""`: api.ErrForm, artsText + `"x"`: api.ErrForm, `"` + artsText: api.ErrForm, `"" ` + artsText: api.ErrForm, `"`: api.ErrForm, `""`: api.ErrForm, `"x"`: api.ErrForm, `"` + strings.ReplaceAll(artsText, "\n", " ") + `"`: api.ErrForm,
	} {
		refuseAll(t, s, want)
		compareAll(t, s)
	}
	readAll(t, in("\n\"500\" "), changed(func(p *api.Programme) { p.Name = "500" }))
	readAll(t, in(`" a  b "`), changed(func(p *api.Programme) { p.Name = " a  b " }))
}

// TestStray: P9.3 and P9.4: bytes that belong to no token make no text, wherever they stand.
func TestStray(t *testing.T) {
	const short = "all (course 0 of 1:A)"
	for b := range 256 {
		c := string([]byte{byte(b)})
		blank := b == ' ' || b == '\n'
		for i := range len(short) + 1 {
			_, err := text.ReadNeed(short[:i] + c + short[i:])
			inner := i > 0 && i < len(short)
			if blank && !inner && err != api.OK {
				t.Errorf("ReadNeed with %q outside = %d", c, err)
			}
			if !blank && !strings.Contains("abcdefghijklmnopqrstuvwxyzABCDEFGHIJKLMNOPQRSTUVWXYZ0123456789-:", c) && err != api.ErrForm {
				t.Errorf("ReadNeed with %q at %d = %d", c, i, err)
			}
		}
	}
	for _, c := range []string{"\t", "\r", ",", "_", "\x00", "\x7f", "\x80", "\xa0", "\xff", ".", "+", "*", "/", "\\", "'", "`", "#", "!", "?", "=", "<", "{", "[", "|", "~", "@", "$", "%", "&", "^", "\v", "\f", "\u00a0", "é", "\u2028"} {
		for _, s := range []string{"course" + c + " 0 of 1:A", "course " + c + " 0 of 1:A", "course" + c + "0 of 1:A", c + "course 0 of 1:A", "course 0 of 1:A" + c, "course 0 of 1:A " + c, "course 0 of 1:" + c, "course 0 of 1" + c + "A", "cour" + c + "se 0 of 1:A", "all" + c + "(course 0 of 1:A)", "all (" + c + "course 0 of 1:A)", "all (course 0 of 1:A" + c + "course 0 of 1:B)"} {
			refuseNeed(t, s, api.ErrForm)
			compareNeed(t, s)
		}
		for i := range len(artsText) + 1 {
			compareAll(t, artsText[:i]+c+artsText[i:])
		}
		refuseAll(t, c+artsText, api.ErrForm)
		refuseAll(t, artsText+c, api.ErrForm)
	}
}

// TestWords: P9.3 and P9.4: words that stand one after the other without a blank are one word; two courses make one, whose Code is all that stands behind the first colon.
func TestWords(t *testing.T) {
	tokens, _ := modelTokens(artsText)
	for i := range len(tokens) - 1 {
		s := strings.Join(tokens[:i+1], " ") + strings.Join(tokens[i+1:], " ")
		switch two := tokens[i] + " " + tokens[i+1]; {
		case two == "1:A1 1:B1" || two == "2:B2 3:C":
			refuseAll(t, s, api.ErrArg)
		case strings.ContainsAny(two, "();\""):
			readAll(t, s, arts())
		default:
			refuseAll(t, s, api.ErrForm)
		}
		compareAll(t, s)
	}
	refuseNeed(t, "course 0 of 1:A1:B", api.ErrArg)
	refuseNeed(t, "course 0 of 1:A11:B", api.ErrArg)
	readNeed(t, "course 0 of 1:A1", one(0, "1:A1"))
}
