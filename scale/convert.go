package scale

import (
	"cmp"

	"quadrivium/api"
)

// maxFactor is the greatest Den of a conversion, and the greatest size of its Num and Add.
const maxFactor = 1000

// CheckConv returns OK, if c can convert grades.
func CheckConv(c api.Conv) api.Errno {
	if !within(c.Den, 1, maxFactor) || !within(c.Num, -maxFactor, maxFactor) || !within(c.Add, -maxFactor, maxFactor) || !within(c.Round, api.RoundDown, api.RoundEven) {
		return api.ErrRange
	}
	return api.OK
}

// Convert returns what c makes of the mean of the grades, as a grade on the scale of the school to which they come.
func Convert(c api.Conv, to api.Scale, grades, credits []int) (int, api.Errno) {
	if err := CheckConv(c); err != api.OK {
		return 0, err
	}
	if err := Check(to); err != api.OK {
		return 0, err
	}
	m, err := Mean(grades, credits)
	if err != api.OK {
		return 0, err
	}
	// The parts can be greater than those of a right ratio, but are far from wrapping around.
	return place(to, rounded(m.N*c.Num+c.Add*m.D, m.D*c.Den, c.Round)), api.OK
}

// way is a way of rounding a number that is not whole: up reports whether it goes to the next greater whole number, rather than to down, the next lesser one. half is -1, 0 or 1, if the number is less than the half between both, is this half, or is greater.
type way struct {
	up func(down, half int) bool
}

// rounded returns n / d, rounded in the way how; d is positive.
func rounded(n, d, how int) int {
	ways := [...]way{
		api.RoundDown: {func(down, half int) bool { return false }},
		api.RoundUp:   {func(down, half int) bool { return true }},
		api.RoundHalf: {func(down, half int) bool { return half >= 0 }},
		api.RoundEven: {func(down, half int) bool { return half > 0 || half == 0 && down%2 != 0 }},
	}
	down, rest := n/d, n%d
	if rest < 0 { // Go's own division rounds negative numbers up
		down, rest = down-1, rest+d
	}
	if rest != 0 && ways[how].up(down, cmp.Compare(2*rest, d)) {
		return down + 1
	}
	return down
}
