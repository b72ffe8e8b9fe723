package ratio

import (
	"strconv"
	"strings"

	"quadrivium/api"
)

// Text returns r in decimal, without its D, if this is 1; the empty string, if r is not right.
func Text(r api.Ratio) string {
	if !right(r) {
		return ""
	}
	n := strconv.Itoa(r.N)
	if r.D == 1 {
		return n
	}
	return n + "/" + strconv.Itoa(r.D)
}

// Parse returns the right ratio whose Text is s.
func Parse(s string) (api.Ratio, bool) {
	top, bottom, divided := strings.Cut(s, "/")
	if !divided {
		bottom = "1"
	}
	n, err := strconv.Atoi(top)
	if err != nil {
		return api.Ratio{}, false
	}
	d, err := strconv.Atoi(bottom)
	if err != nil {
		return api.Ratio{}, false
	}
	r := api.Ratio{N: n, D: d}
	// Atoi also takes a plus sign, leading zeros and -0, and numbers that are no right ratio together, or one with another Text.
	if Text(r) != s {
		return api.Ratio{}, false
	}
	return r, true
}
