package scale_test

import (
	"math"
	"math/big"
	"slices"
	"testing"

	"quadrivium/api"
)

// edges are numbers around the ends of all scales, and around the least and the greatest number of some widths.
func edges() []int {
	return []int{
		math.MinInt, math.MinInt + 1, math.MinInt + 1000, math.MinInt / 2, -1<<32 - 1, -1 << 32, -1 << 31, -100000, -1002, -1001, -1000, -999, -998, -2, -1,
		0, 1, 2, 998, 999, 1000, 1001, 1002, 65536 + 5, 100000, 1 << 31, 1 << 32, 1<<32 + 1, 1<<32 + 5, math.MaxInt / 2, math.MaxInt - 1000, math.MaxInt - 1, math.MaxInt,
	}
}

func of(worst, best, pass int) api.Scale {
	return api.Scale{Worst: worst, Best: best, Pass: pass}
}

// scales are valid scales of both directions, of both signs, short and long ones, with Pass at both ends, next to them, and between them.
func scales() []api.Scale {
	l := []api.Scale{of(0, 100, 50), of(6, 1, 4), of(0, 10, 5), of(0, 20, 10), of(20, 0, 8), of(-3, 12, 2), of(12, -3, 0), of(-1, -9, -4), of(-90, -30, -50), of(4, 9, 6)}
	for _, ends := range [][2]int{{0, 1}, {-1, 1}, {-2, 0}, {999, 1000}, {-1000, -999}, {-1000, 1000}, {-999, 1000}, {3, 7}} {
		for _, pass := range []int{ends[0], ends[0] + 1, (ends[0] + ends[1]) / 2, ends[1] - 1, ends[1]} {
			l = append(l, of(ends[0], ends[1], pass), of(ends[1], ends[0], pass))
		}
	}
	slices.SortFunc(l, func(a, b api.Scale) int {
		return slices.Compare([]int{a.Worst, a.Best, a.Pass}, []int{b.Worst, b.Best, b.Pass})
	})
	return slices.Compact(l)
}

// wrongScales are scales that are not valid: each with one fault, or with several.
func wrongScales() []api.Scale {
	return []api.Scale{
		{}, of(5, 5, 5), of(-5, -5, -5), of(1000, 1000, 1000), of(-1000, -1000, -1000), of(5, 5, 4), of(5, 5, 6), of(0, 0, 1), of(1001, 1001, 1001), of(math.MinInt, math.MinInt, math.MinInt), of(math.MaxInt, math.MaxInt, 0),
		of(-1001, 1000, 0), of(-1000, 1001, 0), of(1001, -1000, 0), of(1000, -1001, 0), of(-1001, 1001, 0), of(1001, 0, 0), of(0, 1001, 1001), of(-1001, 0, -1001), of(1001, 1002, 1001), of(-1002, -1001, -1001), of(-2000, -1000, -1000), of(1000, 2000, 1000),
		of(math.MinInt, 0, 0), of(0, math.MinInt, 0), of(math.MaxInt, 0, 0), of(0, math.MaxInt, 0), of(math.MinInt, math.MaxInt, 0), of(math.MaxInt, math.MinInt, 0), of(1<<32, 10, 5), of(0, 1<<32+10, 5), of(1<<31, 0, 5),
		of(0, 10, 11), of(0, 10, -1), of(10, 0, 11), of(10, 0, -1), of(-1000, 1000, 1001), of(-1000, 1000, -1001), of(1000, -1000, 1001), of(1000, -1000, -1001), of(0, 1, 2), of(1, 0, -1), of(6, 1, 7), of(6, 1, 0), of(0, 10, math.MaxInt), of(0, 10, math.MinInt), of(10, 0, math.MinInt), of(10, 0, math.MaxInt), of(0, 10, 1<<32+5), of(0, 10, -5),
		of(0, 1001, 1002), of(5, 5, 1001), of(math.MaxInt, math.MinInt, math.MaxInt),
	}
}

// isValid says what P5.1 says of scales.
func isValid(s api.Scale) bool {
	for _, end := range []int{s.Worst, s.Best} {
		if end < -1000 || end > 1000 {
			return false
		}
	}
	upward := s.Worst < s.Best && s.Worst <= s.Pass && s.Pass <= s.Best
	downward := s.Worst > s.Best && s.Worst >= s.Pass && s.Pass >= s.Best
	return upward || downward
}

// grades are all the grades of a valid scale, each one better than the one before.
func grades(s api.Scale) []int {
	step := 1
	if s.Best < s.Worst {
		step = -1
	}
	l := []int{s.Worst}
	for l[len(l)-1] != s.Best {
		l = append(l, l[len(l)-1]+step)
	}
	return l
}

// reaches says by package big whether g is Right on a valid scale, and is least, or better.
func reaches(s api.Scale, g, least int) bool {
	direction := big.NewInt(int64(s.Best) - int64(s.Worst))
	from, to := big.NewInt(int64(least)), big.NewInt(int64(g))
	advance := to.Sub(to, from)
	return slices.Contains(grades(s), g) && advance.Mul(advance, direction).Sign() >= 0
}

// opposite changes the sign of all three numbers.
func opposite(s api.Scale) api.Scale {
	return of(-s.Worst, -s.Best, -s.Pass)
}

// opposites changes the sign of all numbers.
func opposites(l []int) []int {
	var m []int
	for _, n := range l {
		m = append(m, -n)
	}
	return m
}

// many is a list of n times x.
func many(n, x int) []int {
	return slices.Repeat([]int{x}, n)
}

// mean returns the mean by package big, one element after the other.
func mean(grades, credits []int) *big.Rat {
	sum, all := new(big.Rat), new(big.Rat)
	for i, g := range grades {
		weight := big.NewRat(int64(credits[i]), 1)
		all.Add(all, weight)
		sum.Add(sum, weight.Mul(weight, big.NewRat(int64(g), 1)))
	}
	return sum.Quo(sum, all)
}

// number returns (m Num + Add) / Den by package big.
func number(c api.Conv, m *big.Rat) *big.Rat {
	x := new(big.Rat).Mul(m, big.NewRat(int64(c.Num), 1))
	x.Add(x, big.NewRat(int64(c.Add), 1))
	return x.Quo(x, big.NewRat(int64(c.Den), 1))
}

// follows reports whether n is x rounded in the way how, by the definition.
func follows(x *big.Rat, how, n int) bool {
	rest := new(big.Rat).Sub(x, big.NewRat(int64(n), 1)) // how much x is greater than n
	one, half := big.NewRat(1, 1), big.NewRat(1, 2)
	size := new(big.Rat).Abs(rest)
	switch how {
	case 1:
		return rest.Sign() >= 0 && rest.Cmp(one) < 0
	case 2:
		return rest.Sign() <= 0 && size.Cmp(one) < 0
	case 3:
		return size.Cmp(half) < 0 || size.Cmp(half) == 0 && rest.Sign() < 0
	}
	return size.Cmp(half) < 0 || size.Cmp(half) == 0 && n%2 == 0
}

// rounded returns the number that x is rounded to in the way how.
func rounded(t *testing.T, x *big.Rat, how int) int {
	t.Helper()
	near := int(new(big.Int).Quo(x.Num(), x.Denom()).Int64())
	var found []int
	for n := near - 2; n <= near+2; n++ {
		if follows(x, how, n) {
			found = append(found, n)
		}
	}
	if len(found) != 1 {
		t.Fatalf("%v is rounded by %d to %v", x, how, found)
	}
	return found[0]
}

// nearest returns n, or the end of the scale that is nearest to it, if it does not lie on it.
func nearest(s api.Scale, n int) int {
	away := func(end int) int { return max(n-end, end-n) }
	switch {
	case away(s.Worst)+away(s.Best) == max(s.Worst-s.Best, s.Best-s.Worst):
		return n
	case away(s.Worst) < away(s.Best):
		return s.Worst
	}
	return s.Best
}

// TestLists: the lists of the other tests hold what they say.
func TestLists(t *testing.T) {
	for _, s := range scales() {
		if !isValid(s) {
			t.Errorf("%v is not valid", s)
		}
	}
	for _, s := range wrongScales() {
		if isValid(s) {
			t.Errorf("%v is valid", s)
		}
	}
	for _, s := range []api.Scale{of(-1000, 1000, -1000), of(1000, -1000, -1000), of(-1000, 1000, 1000), of(-1000, 1000, 999), of(0, 1, 1), of(1, 0, 1)} {
		if !slices.Contains(scales(), s) {
			t.Errorf("%v is not among the scales", s)
		}
	}
	if got := grades(of(6, 1, 4)); !slices.Equal(got, []int{6, 5, 4, 3, 2, 1}) {
		t.Errorf("the grades from 6 to 1 are %v", got)
	}
}
