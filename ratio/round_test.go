package ratio_test

import (
	"math"
	"math/big"
	"slices"
	"testing"

	"quadrivium/api"
	"quadrivium/ratio"
)

// round is Round that must not fail.
func round(t *testing.T, r api.Ratio, how int) int {
	t.Helper()
	n, err := ratio.Round(r, how)
	if err != api.OK {
		t.Errorf("Round(%v, %d) = %d, %d", r, how, n, err)
	}
	return n
}

// TestRound: P4.4, with the examples of the chapter: halves, and what is next to a half, for even and odd neighbours, of both signs; whole ratios; and the bounds.
func TestRound(t *testing.T) {
	for _, x := range []struct {
		r    api.Ratio
		want [4]int
	}{
		{of(-5, 2), [4]int{-3, -2, -2, -2}}, {of(5, 2), [4]int{2, 3, 3, 2}}, {of(7, 2), [4]int{3, 4, 4, 4}}, {of(-7, 2), [4]int{-4, -3, -3, -4}},
		{of(1, 2), [4]int{0, 1, 1, 0}}, {of(-1, 2), [4]int{-1, 0, 0, 0}}, {of(3, 2), [4]int{1, 2, 2, 2}}, {of(-3, 2), [4]int{-2, -1, -1, -2}},
		{of(1, 3), [4]int{0, 1, 0, 0}}, {of(2, 3), [4]int{0, 1, 1, 1}}, {of(-1, 3), [4]int{-1, 0, 0, 0}}, {of(-2, 3), [4]int{-1, 0, -1, -1}}, {of(4, 3), [4]int{1, 2, 1, 1}}, {of(5, 3), [4]int{1, 2, 2, 2}}, {of(-4, 3), [4]int{-2, -1, -1, -1}}, {of(-5, 3), [4]int{-2, -1, -2, -2}},
		{of(1, 4), [4]int{0, 1, 0, 0}}, {of(3, 4), [4]int{0, 1, 1, 1}}, {of(-1, 4), [4]int{-1, 0, 0, 0}}, {of(-3, 4), [4]int{-1, 0, -1, -1}}, {of(9, 4), [4]int{2, 3, 2, 2}}, {of(11, 4), [4]int{2, 3, 3, 3}}, {of(-9, 4), [4]int{-3, -2, -2, -2}}, {of(-11, 4), [4]int{-3, -2, -3, -3}},
		{of(12, 5), [4]int{2, 3, 2, 2}}, {of(13, 5), [4]int{2, 3, 3, 3}}, {of(17, 5), [4]int{3, 4, 3, 3}}, {of(18, 5), [4]int{3, 4, 4, 4}}, {of(-12, 5), [4]int{-3, -2, -2, -2}}, {of(-13, 5), [4]int{-3, -2, -3, -3}},
		{of(0, 1), [4]int{0, 0, 0, 0}}, {of(1, 1), [4]int{1, 1, 1, 1}}, {of(-1, 1), [4]int{-1, -1, -1, -1}}, {of(7, 1), [4]int{7, 7, 7, 7}}, {of(-8, 1), [4]int{-8, -8, -8, -8}},
		{of(bound, 1), [4]int{bound, bound, bound, bound}}, {of(-bound, 1), [4]int{-bound, -bound, -bound, -bound}}, {of(1, bound), [4]int{0, 1, 0, 0}}, {of(-1, bound), [4]int{-1, 0, 0, 0}}, {of(bound-1, bound), [4]int{0, 1, 1, 1}}, {of(1-bound, bound), [4]int{-1, 0, -1, -1}}, {of(bound, bound-1), [4]int{1, 2, 1, 1}}, {of(-bound, bound-1), [4]int{-2, -1, -1, -1}},
		{of(bound-1, 2), [4]int{bound/2 - 1, bound / 2, bound / 2, bound / 2}}, {of(1-bound, 2), [4]int{-bound / 2, 1 - bound/2, 1 - bound/2, -bound / 2}}, {of(bound-3, 2), [4]int{bound/2 - 2, bound/2 - 1, bound/2 - 1, bound/2 - 2}}, {of(3-bound, 2), [4]int{1 - bound/2, 2 - bound/2, 2 - bound/2, 2 - bound/2}},
		{of(bound/2-1, bound-1), [4]int{0, 1, 0, 0}}, {of(bound/2, bound-1), [4]int{0, 1, 1, 1}}, {of(-bound/2, bound-1), [4]int{-1, 0, -1, -1}}, {of(1-bound/2, bound-1), [4]int{-1, 0, 0, 0}}, {of(bound/2-1, bound), [4]int{0, 1, 0, 0}}, {of(bound/2+1, bound), [4]int{0, 1, 1, 1}}, {of(-bound/2+1, bound), [4]int{-1, 0, 0, 0}}, {of(-bound/2-1, bound), [4]int{-1, 0, -1, -1}},
	} {
		for i, want := range x.want {
			if got := round(t, x.r, i+1); got != want {
				t.Errorf("Round(%v, %d) = %d, want %d", x.r, i+1, got, want)
			}
		}
	}
}

// follows reports whether n is r rounded in the way how, by the definition.
func follows(r api.Ratio, how, n int) bool {
	rest := new(big.Rat).Sub(value(r), big.NewRat(int64(n), 1)) // how much r is greater than n
	one, half := big.NewRat(1, 1), big.NewRat(1, 2)
	size := new(big.Rat).Abs(rest)
	switch how {
	case api.RoundDown:
		return rest.Sign() >= 0 && rest.Cmp(one) < 0
	case api.RoundUp:
		return rest.Sign() <= 0 && size.Cmp(one) < 0
	case api.RoundHalf:
		return size.Cmp(half) < 0 || size.Cmp(half) == 0 && rest.Sign() < 0
	}
	return size.Cmp(half) < 0 || size.Cmp(half) == 0 && n%2 == 0
}

// TestRoundAll: P4.4 by each way, for all the ratios.
func TestRoundAll(t *testing.T) {
	for _, r := range rights() {
		for how := 1; how <= 4; how++ {
			if n := round(t, r, how); !follows(r, how, n) {
				t.Errorf("Round(%v, %d) = %d", r, how, n)
			}
		}
	}
}

// TestRoundErrors: P4.4: ratios that are not right, ways that there are not, and both.
func TestRoundErrors(t *testing.T) {
	none := []int{0, -1, -4, 5, 6, 1 << 32, 1<<32 + 1, 1<<32 + 4, math.MinInt, math.MinInt + 1, math.MaxInt}
	for _, r := range wrongs() {
		for _, how := range append([]int{1, 2, 3, 4}, none...) {
			noRound(t, r, how)
		}
	}
	for _, r := range rights() {
		for _, how := range none {
			noRound(t, r, how)
		}
	}
}

func noRound(t *testing.T, r api.Ratio, how int) {
	t.Helper()
	if n, err := ratio.Round(r, how); n != 0 || err != api.ErrArg {
		t.Errorf("Round(%v, %d) = %d, %d, want ErrArg", r, how, n, err)
	}
}

// TestRoundOpposite: P4.7: RoundDown is the opposite of RoundUp of the opposite, and RoundEven that of RoundEven.
func TestRoundOpposite(t *testing.T) {
	for _, r := range rights() {
		if down, up := round(t, r, api.RoundDown), round(t, opposite(r), api.RoundUp); down != -up {
			t.Errorf("%v is rounded down to %d, its opposite up to %d", r, down, up)
		}
		if even, other := round(t, r, api.RoundEven), round(t, opposite(r), api.RoundEven); even != -other {
			t.Errorf("%v is rounded to %d, its opposite to %d", r, even, other)
		}
	}
}

// TestRoundOrder: P4.7: no way of rounding reverses an order, that of Cmp.
func TestRoundOrder(t *testing.T) {
	l := rights()
	slices.SortFunc(l, ratio.Cmp)
	for how := 1; how <= 4; how++ {
		for k := 1; k < len(l); k++ {
			if a, b := round(t, l[k-1], how), round(t, l[k], how); a > b {
				t.Errorf("%v and %v are rounded to %d and %d by %d", l[k-1], l[k], a, b, how)
			}
		}
	}
}
