package ratio

import (
	"quadrivium/api"
)

// Round returns a whole number next to r, by one of the ways of package api.
func Round(r api.Ratio, how int) (int, api.Errno) {
	ways := [...]func(fraction) int{
		api.RoundDown: fraction.down,
		api.RoundUp:   fraction.up,
		api.RoundHalf: fraction.half,
		api.RoundEven: fraction.even,
	}
	if !right(r) || how < api.RoundDown || how > api.RoundEven {
		return 0, api.ErrArg
	}
	return ways[how](fraction(r)), api.OK
}

// fraction is a ratio that is rounded; its D is at least 1.
type fraction api.Ratio

// down returns the greatest whole number that is not greater than f. Go's own division rounds negative numbers up.
func (f fraction) down() int {
	q := f.N / f.D
	if f.N%f.D < 0 {
		q--
	}
	return q
}

func (f fraction) up() int {
	return -fraction{-f.N, f.D}.down()
}

// half returns f plus 1/2, rounded down.
func (f fraction) half() int {
	return fraction{2*f.N + f.D, 2 * f.D}.down()
}

// even returns what half returns, or the even neighbour, if f is as near to it. In lowest terms this can be if D is 2 alone.
func (f fraction) even() int {
	n := f.half()
	if f.D == 2 && n%2 != 0 {
		return n - 1
	}
	return n
}
