package ratio_test

import (
	"fmt"
	"math/big"
	"regexp"
	"strings"
	"testing"

	"quadrivium/api"
	"quadrivium/ratio"
)

// TestText: P4.5 of Text, with the examples of the chapter, and of Parse for the same strings.
func TestText(t *testing.T) {
	for _, x := range []struct {
		r    api.Ratio
		want string
	}{
		{of(-3, 2), "-3/2"}, {of(7, 1), "7"}, {of(-7, 1), "-7"}, {of(0, 1), "0"}, {of(1, 1), "1"}, {of(-1, 1), "-1"}, {of(1, 2), "1/2"}, {of(-1, 10), "-1/10"}, {of(10, 1), "10"}, {of(100, 7), "100/7"}, {of(3, 100), "3/100"}, {of(-40, 21), "-40/21"},
		{of(bound, 1), "1073741824"}, {of(-bound, 1), "-1073741824"}, {of(1, bound), "1/1073741824"}, {of(1-bound, bound), "-1073741823/1073741824"}, {of(-bound, bound-1), "-1073741824/1073741823"},
	} {
		if got := ratio.Text(x.r); got != x.want {
			t.Errorf("Text(%v) = %q, want %q", x.r, got, x.want)
		}
		parse(t, x.want, x.r, true)
	}
}

// parse is a call of Parse that must return want and ok.
func parse(t *testing.T, s string, want api.Ratio, ok bool) {
	t.Helper()
	if got, found := ratio.Parse(s); got != want || found != ok {
		t.Errorf("Parse(%.60q) = %v, %v, want %v, %v", s, got, found, want, ok)
	}
}

// TestTextWrong: P4.5: a ratio that is not right has no text.
func TestTextWrong(t *testing.T) {
	for _, r := range wrongs() {
		if got := ratio.Text(r); got != "" {
			t.Errorf("Text(%v) = %q", r, got)
		}
	}
}

// TestParseUndoes: P4.6: Parse undoes Text.
func TestParseUndoes(t *testing.T) {
	for _, r := range rights() {
		parse(t, ratio.Text(r), r, true)
	}
}

// TestParseFalse: P4.5: strings that are the text of no right ratio.
func TestParseFalse(t *testing.T) {
	for _, s := range []string{
		"", "/", "-", "+", "-/", "-/2", "/2", "/1", "1/", "-1/", "0/", "//", "1//2", "1/2/", "/1/2", "1/2/3", "2/1/1", "4/2", "2/4", "-2/4", "6/3", "0/2", "0/1", "0/0", "1/1", "7/1", "-7/1", "1/0", "0/3", "2/2",
		"-0", "+1", "+0", "+1/2", "1/+2", "01", "-01", "00", "1/02", "01/2", "-01/2", "1/-2", "-1/-2", "1/-1", "--1", "-+1", "+-1", "- 1", "1-", "1-2", "-0/2", "-0/1", "1/00", "1/-0",
		" ", " 1", "1 ", "1 /2", "1/ 2", " 1/2", "1/2 ", "1 2", "\t1", "1\n", "1/2\n", "1\r", "\x001", "1\x00", "1\x00/2", "1_0", "1/1_0", "1,0", "1.0", "0.5", "1e1", "1E1", "0x1", "0b1", "0o7", "0X1", "1/0x2", "a", "1a", "a1", "1/a", "1/2a", "NaN", "Inf", "1:2", "1\\2", "1|2",
		"1073741825", "-1073741825", "1/1073741825", "1073741825/2", "2147483648/2", "2/2147483648", "4294967297", "1/4294967297", "9223372036854775807", "-9223372036854775808", "9223372036854775808", "-9223372036854775809", "18446744073709551616", "18446744073709551617", "-18446744073709551615", "1/18446744073709551618", "18446744073709551617/18446744073709551618", "1073741824/1073741824", "1073741823/331",
		strings.Repeat("9", 100000), "-" + strings.Repeat("9", 100000), "1/" + strings.Repeat("9", 100000), strings.Repeat("9", 100000) + "/2", strings.Repeat("0", 100000), strings.Repeat("0", 100000) + "1", "1/" + strings.Repeat("0", 100000) + "2", "1" + strings.Repeat("0", 100000), strings.Repeat("-", 100000) + "1", strings.Repeat("1/", 100000) + "2", strings.Repeat("/", 100000), strings.Repeat(" ", 100000) + "1",
		"\xff", "1\xff", "½", "1⁄2", "1∕2", "−1", "٣", "１", "1／2", "é",
	} {
		parse(t, s, api.Ratio{}, false)
	}
}

// form is how Text writes numbers: without leading zeros, and without a D of 0 or 1.
var form = regexp.MustCompile(`^(0|-?[1-9][0-9]*)(?:/([2-9]|[1-9][0-9]+))?$`)

// parsed returns the right ratio with the text s, by the definition.
func parsed(s string) (api.Ratio, bool) {
	parts := form.FindStringSubmatch(s)
	if parts == nil || strings.HasSuffix(s, "\n") {
		return api.Ratio{}, false
	}
	n, _ := new(big.Int).SetString(parts[1], 10)
	d := big.NewInt(1)
	if parts[2] != "" {
		d, _ = d.SetString(parts[2], 10)
	}
	if !n.IsInt64() || !d.IsInt64() {
		return api.Ratio{}, false
	}
	r := of(int(n.Int64()), int(d.Int64()))
	if !isRight(r) {
		return api.Ratio{}, false
	}
	return r, true
}

// TestParseAll: P4.5 for all strings of up to six bytes over a small alphabet.
func TestParseAll(t *testing.T) {
	if found := parseFrom(t, "", 6); found < 1000 {
		t.Errorf("only %d of the strings are texts", found)
	}
}

// parseFrom parses s, and all strings that begin with it and have up to more bytes behind it, and returns how many of them are texts.
func parseFrom(t *testing.T, s string, more int) int {
	want, ok := parsed(s)
	parse(t, s, want, ok)
	found := 0
	if ok {
		found = 1
	}
	if more > 0 {
		for _, c := range "-+/0126 " {
			found += parseFrom(t, s+string(c), more-1)
		}
	}
	return found
}

// TestParseNear: P4.5 for all strings that come from a text by a byte that is changed, left out or put in.
func TestParseNear(t *testing.T) {
	for _, r := range rights() {
		s := fmt.Sprint(r.N)
		if r.D != 1 {
			s += "/" + fmt.Sprint(r.D)
		}
		if got := ratio.Text(r); got != s {
			t.Errorf("Text(%v) = %q, want %q", r, got, s)
		}
		for i := range len(s) + 1 {
			for _, c := range []string{"", "0", "1", "5", "-", "+", "/", " ", "_", "\x00"} {
				near := []string{s[:i] + c + s[i:]}
				if i < len(s) {
					near = append(near, s[:i]+c+s[i+1:])
				}
				for _, s := range near {
					want, ok := parsed(s)
					parse(t, s, want, ok)
				}
			}
		}
	}
}
