package ratio_test

import (
	"math"
	"math/big"
	"slices"
	"testing"

	"quadrivium/api"
)

// bound is the greatest D of a right ratio, and the greatest size of its N.
const bound = 1 << 30

// The primes next to the bound, and a prime factor of 2^30 - 1.
const (
	primeBelow = 1073741789
	primeAbove = 1073741827
	factor     = 331
)

func of(n, d int) api.Ratio {
	return api.Ratio{N: n, D: d}
}

// value returns the number for which r stands.
func value(r api.Ratio) *big.Rat {
	return big.NewRat(int64(r.N), int64(r.D))
}

// expected returns the right ratio that stands for x, by the definition; package big keeps x in lowest terms.
func expected(x *big.Rat) (api.Ratio, api.Errno) {
	limit := big.NewInt(bound)
	if x.Num().CmpAbs(limit) > 0 || x.Denom().Cmp(limit) > 0 {
		return api.Ratio{}, api.ErrRange
	}
	return of(int(x.Num().Int64()), int(x.Denom().Int64())), api.OK
}

// numbers are ints of both signs: small ones, and those around powers of two, primes near the bound, and both ends of type int.
func numbers() []int {
	var l []int
	for n := range 13 {
		l = append(l, n, -n)
	}
	for k := 4; k < 63; k++ {
		l = append(l, 1<<k, -1<<k)
	}
	for _, k := range []int{29, 30, 31, 32, 33, 60, 61, 62} {
		l = append(l, 1<<k-1, 1<<k+1, -1<<k-1, -1<<k+1)
	}
	for _, n := range []int{factor, primeBelow, primeAbove, 3 * bound, 3 * bound / 2, 5 * primeBelow, bound * factor, math.MaxInt, math.MaxInt - 1, math.MaxInt / 2, math.MaxInt / 3} {
		l = append(l, n, -n)
	}
	l = append(l, math.MinInt, math.MinInt/2, math.MinInt+2)
	slices.Sort(l)
	return slices.Compact(l)
}

// rights are right ratios of both signs: all those with small numbers, and those with numbers at the bounds, and near them.
func rights() []api.Ratio {
	var l []api.Ratio
	add := func(n, d int) {
		if r, err := expected(big.NewRat(int64(n), int64(d))); err == api.OK && r == of(n, d) {
			l = append(l, r)
		}
	}
	for d := 1; d <= 8; d++ {
		for n := -17; n <= 17; n++ {
			add(n, d)
		}
	}
	edges := []int{
		1, 2, 3, factor, 1 << 15, 1<<15 + 1, 46341, bound / 3, bound/2 - 1, bound / 2, bound/2 + 1, primeBelow,
		bound/3*2 + 1, bound - 3, bound - 2, bound - 1, bound,
	}
	for _, d := range edges {
		for _, n := range edges {
			add(n, d)
			add(-n, d)
		}
	}
	slices.SortFunc(l, func(a, b api.Ratio) int { return slices.Compare([]int{a.N, a.D}, []int{b.N, b.D}) })
	return slices.Compact(l)
}

// wrongs are ratios that are not right: each with one fault, or with several.
func wrongs() []api.Ratio {
	return []api.Ratio{
		{}, of(1, 0), of(-1, 0), of(bound, 0), of(math.MinInt, 0), of(math.MaxInt, 0),
		of(1, -1), of(-1, -1), of(0, -1), of(3, -2), of(-3, -2), of(1, -bound), of(1, math.MinInt), of(math.MinInt, -1), of(1, 1-bound),
		of(bound+1, 1), of(-bound-1, 1), of(bound+1, 2), of(-bound-1, 2), of(primeAbove, 1), of(-primeAbove, 3), of(1<<31, 1), of(1<<32, 1), of(1<<32+1, 1), of(-1<<32-1, 1),
		of(math.MaxInt, 1), of(math.MinInt, 1), of(math.MinInt+1, 1), of(math.MaxInt, 2), of(math.MinInt, 3),
		of(1, bound+1), of(-1, bound+1), of(1, primeAbove), of(1, 1<<31), of(1, 1<<32), of(1, 1<<32+1), of(1, math.MaxInt), of(3, math.MaxInt-1),
		of(0, 2), of(0, 7), of(0, bound), of(2, 2), of(4, 2), of(2, 4), of(-2, 4), of(6, 3), of(-9, 6), of(bound, bound), of(bound, 2), of(2, bound), of(-bound, bound), of(bound-1, factor), of(factor, bound-1), of(primeBelow, primeBelow),
		of(2*bound, 2), of(2, 2*bound), of(2*bound, 2*bound), of(-2*bound, 2), of(0, 2*bound), of(2, -4), of(0, -2), of(bound+1, 0), of(2*bound, -2), of(math.MinInt, math.MinInt), of(math.MinInt, 2), of(math.MaxInt, math.MaxInt), of(bound+1, bound+1),
	}
}

// isRight says what the words of the chapter say of right ratios.
func isRight(r api.Ratio) bool {
	if r.D < 1 || r.D > bound || r.N < -bound || r.N > bound {
		return false
	}
	common := new(big.Int).GCD(nil, nil, new(big.Int).Abs(big.NewInt(int64(r.N))), big.NewInt(int64(r.D)))
	return common.Cmp(big.NewInt(1)) == 0
}

// TestLists: the lists of the other tests hold what they say, and the bounds with both signs.
func TestLists(t *testing.T) {
	for _, r := range rights() {
		if !isRight(r) {
			t.Errorf("%v is not right", r)
		}
	}
	for _, r := range wrongs() {
		if isRight(r) {
			t.Errorf("%v is right", r)
		}
	}
	for _, r := range []api.Ratio{of(0, 1), of(bound, 1), of(-bound, 1), of(1, bound), of(-1, bound), of(bound-1, bound), of(1-bound, bound), of(bound, bound-1), of(-bound, bound-1), of(5, 2), of(-5, 2), of(bound-1, 2), of(1-bound, 2)} {
		if !slices.Contains(rights(), r) {
			t.Errorf("%v is not among the right ratios", r)
		}
	}
	for _, n := range []int64{primeBelow, primeAbove, factor} {
		if !big.NewInt(n).ProbablyPrime(0) {
			t.Errorf("%d is no prime", n)
		}
	}
	if (bound-1)%factor != 0 {
		t.Errorf("%d does not divide %d", factor, bound-1)
	}
}
