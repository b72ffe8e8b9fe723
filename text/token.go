package text

import (
	"iter"
	"strconv"
	"strings"

	"quadrivium/api"
)

// maxNumber is the greatest number of 9 digits.
const maxNumber = 999999999

// tokens yields the tokens of s. It panics at what belongs to none.
func tokens(s string) iter.Seq[string] {
	return func(yield func(token string) bool) {
		for at, end := 0, 0; at < len(s); at = end {
			end = at + 1
			switch b := s[at]; {
			case b == ' ' || b == '\n':
				// It stands between tokens.
			case b == '"' || inWord(b):
				end = at + length(s[at:])
				fallthrough
			case b == '(' || b == ')' || b == ';':
				if !yield(s[at:end]) {
					return
				}
			default:
				panic(api.ErrForm)
			}
		}
	}
}

// length returns the number of bytes of the string, or of the word, with which s begins.
func length(s string) int {
	if s[0] != '"' {
		return run(s, inWord)
	}
	end := 1 + run(s[1:], inString)
	if end == len(s) || s[end] != '"' {
		panic(api.ErrForm)
	}
	return end + 1
}

// run returns the number of bytes at the beginning of s that belong to a token.
func run(s string, belongs func(b byte) bool) int {
	for i := range len(s) {
		if !belongs(s[i]) {
			return i
		}
	}
	return len(s)
}

func inWord(b byte) bool {
	return within(b, 'a', 'z') || within(b, 'A', 'Z') || within(b, '0', '9') || b == '-' || b == ':'
}

func inString(b byte) bool {
	return within(b, ' ', '~') && b != '"'
}

func within(b, low, high byte) bool {
	return low <= b && b <= high
}

// toNumber returns the number that a token is.
func toNumber(token string) (int, bool) {
	n, err := strconv.Atoi(token)
	// Atoi also takes leading zeros and -0.
	if err != nil || strconv.Itoa(n) != token || n < -maxNumber || n > maxNumber {
		return 0, false
	}
	return n, true
}

// toCourse returns the course that a token is, whether or not there can be such a one.
func toCourse(token string) (api.Course, bool) {
	before, code, divided := strings.Cut(token, ":")
	school, ok := toNumber(before)
	if !divided || !ok {
		return api.Course{}, false
	}
	return api.Course{School: school, Code: code}, true
}
