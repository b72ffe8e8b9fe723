package ratio_test

import (
	"math"
	"math/big"
	"testing"

	"quadrivium/api"
	"quadrivium/ratio"
)

// call is Add, Sub or Mul, and the same by package big.
type call struct {
	name  string
	call  func(a, b api.Ratio) (api.Ratio, api.Errno)
	model func(z, a, b *big.Rat) *big.Rat
}

func calls() []call {
	return []call{{"Add", ratio.Add, (*big.Rat).Add}, {"Sub", ratio.Sub, (*big.Rat).Sub}, {"Mul", ratio.Mul, (*big.Rat).Mul}}
}

// opposite returns r times -1.
func opposite(r api.Ratio) api.Ratio {
	return of(-r.N, r.D)
}

// TestOf: P4.1, with the examples of the chapter: signs, lowest terms, both bounds, and numbers at the ends of type int.
func TestOf(t *testing.T) {
	for _, x := range []struct {
		n, d int
		want api.Ratio
		err  api.Errno
	}{
		{6, -4, of(-3, 2), api.OK}, {0, 7, of(0, 1), api.OK}, {1, 0, api.Ratio{}, api.ErrArg}, {1 << 31, 1, api.Ratio{}, api.ErrRange}, {1 << 31, 2, of(bound, 1), api.OK},
		{3, 4, of(3, 4), api.OK}, {-3, 4, of(-3, 4), api.OK}, {3, -4, of(-3, 4), api.OK}, {-3, -4, of(3, 4), api.OK}, {12, 18, of(2, 3), api.OK}, {-18, 12, of(-3, 2), api.OK}, {-10, -5, of(2, 1), api.OK}, {7, 7, of(1, 1), api.OK}, {7, -7, of(-1, 1), api.OK}, {1, 1, of(1, 1), api.OK}, {35, 64, of(35, 64), api.OK},
		{0, 1, of(0, 1), api.OK}, {0, -1, of(0, 1), api.OK}, {0, -7, of(0, 1), api.OK}, {0, math.MaxInt, of(0, 1), api.OK}, {0, math.MinInt, of(0, 1), api.OK}, {0, bound + 1, of(0, 1), api.OK},
		{0, 0, api.Ratio{}, api.ErrArg}, {-1, 0, api.Ratio{}, api.ErrArg}, {math.MinInt, 0, api.Ratio{}, api.ErrArg}, {math.MaxInt, 0, api.Ratio{}, api.ErrArg}, {bound + 1, 0, api.Ratio{}, api.ErrArg},
		{bound, 1, of(bound, 1), api.OK}, {-bound, 1, of(-bound, 1), api.OK}, {bound, -1, of(-bound, 1), api.OK}, {-bound, -1, of(bound, 1), api.OK}, {1, bound, of(1, bound), api.OK}, {1, -bound, of(-1, bound), api.OK}, {-1, -bound, of(1, bound), api.OK}, {bound, bound, of(1, 1), api.OK},
		{bound + 1, 1, api.Ratio{}, api.ErrRange}, {-bound - 1, 1, api.Ratio{}, api.ErrRange}, {bound + 1, -1, api.Ratio{}, api.ErrRange}, {1, bound + 1, api.Ratio{}, api.ErrRange}, {1, -bound - 1, api.Ratio{}, api.ErrRange}, {-1, bound + 1, api.Ratio{}, api.ErrRange},
		{bound + 1, bound + 1, of(1, 1), api.OK}, {bound + 1, bound + 2, api.Ratio{}, api.ErrRange}, {bound + 2, 2, of(bound/2+1, 1), api.OK}, {2, bound + 2, of(1, bound/2+1), api.OK}, {2 * bound, 3, api.Ratio{}, api.ErrRange}, {3 * bound, 3, of(bound, 1), api.OK}, {3, -3 * bound, of(-1, bound), api.OK}, {3*bound + 3, 3, api.Ratio{}, api.ErrRange}, {3, 3*bound + 3, api.Ratio{}, api.ErrRange},
		{primeBelow, primeAbove, api.Ratio{}, api.ErrRange}, {5 * primeBelow, 5, of(primeBelow, 1), api.OK}, {5, -5 * primeBelow, of(-1, primeBelow), api.OK}, {1<<32 + 1, 1, api.Ratio{}, api.ErrRange}, {1, 1<<32 + 1, api.Ratio{}, api.ErrRange},
		{math.MinInt, math.MinInt, of(1, 1), api.OK}, {math.MaxInt, math.MaxInt, of(1, 1), api.OK}, {math.MinInt, 1, api.Ratio{}, api.ErrRange}, {math.MinInt, -1, api.Ratio{}, api.ErrRange}, {1, math.MinInt, api.Ratio{}, api.ErrRange}, {-1, math.MinInt, api.Ratio{}, api.ErrRange}, {math.MaxInt, 1, api.Ratio{}, api.ErrRange}, {1, math.MaxInt, api.Ratio{}, api.ErrRange}, {math.MinInt, math.MaxInt, api.Ratio{}, api.ErrRange}, {math.MaxInt, math.MinInt, api.Ratio{}, api.ErrRange},
		{math.MinInt, 1 << 33, of(-bound, 1), api.OK}, {math.MinInt, -1 << 33, of(bound, 1), api.OK}, {1 << 33, math.MinInt, of(-1, bound), api.OK}, {-1 << 33, math.MinInt, of(1, bound), api.OK}, {math.MinInt, 1 << 32, api.Ratio{}, api.ErrRange}, {1 << 32, math.MinInt, api.Ratio{}, api.ErrRange}, {math.MinInt, 1 << 62, of(-2, 1), api.OK}, {1 << 62, math.MinInt, of(-1, 2), api.OK}, {math.MinInt, -1 << 62, of(2, 1), api.OK},
		{math.MinInt + 1, math.MaxInt, of(-1, 1), api.OK}, {math.MaxInt, math.MinInt + 1, of(-1, 1), api.OK}, {math.MaxInt, math.MaxInt / 7, of(7, 1), api.OK}, {math.MaxInt / 7, -math.MaxInt, of(-1, 7), api.OK},
	} {
		if got, err := ratio.Of(x.n, x.d); got != x.want || err != x.err {
			t.Errorf("Of(%d, %d) = %v, %d, want %v, %d", x.n, x.d, got, err, x.want, x.err)
		}
	}
}

// checkOf compares Of with the definition.
func checkOf(t *testing.T, n, d int) {
	t.Helper()
	want, fail := api.Ratio{}, api.ErrArg
	if d != 0 {
		want, fail = expected(big.NewRat(int64(n), int64(d)))
	}
	if got, err := ratio.Of(n, d); got != want || err != fail {
		t.Errorf("Of(%d, %d) = %v, %d, want %v, %d", n, d, got, err, want, fail)
	}
}

// TestOfAll: P4.1 for all small numbers, and for all pairs of numbers up to both ends of type int.
func TestOfAll(t *testing.T) {
	for n := -80; n <= 80; n++ {
		for d := -80; d <= 80; d++ {
			checkOf(t, n, d)
		}
	}
	for _, n := range numbers() {
		for _, d := range numbers() {
			checkOf(t, n, d)
		}
	}
}

// TestOfSame: P4.1 and the words: however a fraction is extended, it is that of the same right ratio; and Of of what is right is the same.
func TestOfSame(t *testing.T) {
	for _, r := range rights() {
		for _, k := range []int{1, -1, 2, -3, factor, primeAbove, 1 << 32, -1 << 32, 1<<33 - 1} {
			if got, err := ratio.Of(k*r.N, k*r.D); got != r || err != api.OK {
				t.Errorf("Of(%d, %d) = %v, %d, want %v", k*r.N, k*r.D, got, err, r)
			}
		}
	}
}

// checkCall is a call with right ratios that must return want, or ErrRange, if want is zero.
func checkCall(t *testing.T, c call, a, b, want api.Ratio) {
	t.Helper()
	fail := api.OK
	if want == (api.Ratio{}) {
		fail = api.ErrRange
	}
	if got, err := c.call(a, b); got != want || err != fail {
		t.Errorf("%s(%v, %v) = %v, %d, want %v, %d", c.name, a, b, got, err, want, fail)
	}
}

// TestCalls: P4.2 and P4.3, with the examples of the chapter: what cancels and what doesn't, of both signs.
func TestCalls(t *testing.T) {
	for _, x := range []struct {
		a, b, sum, difference, product api.Ratio
		cmp                            int
	}{
		{of(1, 2), of(1, 3), of(5, 6), of(1, 6), of(1, 6), 1}, {of(1, 3), of(1, 2), of(5, 6), of(-1, 6), of(1, 6), -1}, {of(1, 2), of(1, 2), of(1, 1), of(0, 1), of(1, 4), 0}, {of(1, 2), of(-1, 2), of(0, 1), of(1, 1), of(-1, 4), 1},
		{of(-1, 2), of(-1, 3), of(-5, 6), of(-1, 6), of(1, 6), -1}, {of(1, 6), of(1, 3), of(1, 2), of(-1, 6), of(1, 18), -1}, {of(3, 4), of(5, 12), of(7, 6), of(1, 3), of(5, 16), 1}, {of(2, 3), of(3, 2), of(13, 6), of(-5, 6), of(1, 1), -1}, {of(-2, 3), of(3, 2), of(5, 6), of(-13, 6), of(-1, 1), -1},
		{of(0, 1), of(0, 1), of(0, 1), of(0, 1), of(0, 1), 0}, {of(0, 1), of(3, 7), of(3, 7), of(-3, 7), of(0, 1), -1}, {of(-3, 7), of(0, 1), of(-3, 7), of(-3, 7), of(0, 1), -1}, {of(7, 1), of(-9, 1), of(-2, 1), of(16, 1), of(-63, 1), 1}, {of(4, 9), of(3, 8), of(59, 72), of(5, 72), of(1, 6), 1}, {of(8, 5), of(15, 4), of(107, 20), of(-43, 20), of(6, 1), -1},
		{of(bound-1, 1), of(1, 1), of(bound, 1), of(bound-2, 1), of(bound-1, 1), 1}, {of(1-bound, 1), of(-1, 1), of(-bound, 1), of(2-bound, 1), of(bound-1, 1), -1}, {of(bound/2, 1), of(-1, 2), of(bound-1, 2), api.Ratio{}, of(-bound/4, 1), 1},
	} {
		want := []api.Ratio{x.sum, x.difference, x.product}
		for i, c := range calls() {
			checkCall(t, c, x.a, x.b, want[i])
		}
		if got := ratio.Cmp(x.a, x.b); got != x.cmp {
			t.Errorf("Cmp(%v, %v) = %d, want %d", x.a, x.b, got, x.cmp)
		}
	}
}

// TestCallsRange: P4.2: results at the bounds and just behind them, also where the lowest terms alone are within.
func TestCallsRange(t *testing.T) {
	for _, x := range []struct {
		call int // Add, Sub, Mul
		a, b api.Ratio
		want api.Ratio // zero: ErrRange
	}{
		{0, of(1, bound-1), of(1, 2), api.Ratio{}}, {0, of(bound, 1), of(1, 1), api.Ratio{}}, {0, of(-bound, 1), of(-1, 1), api.Ratio{}}, {1, of(-bound, 1), of(1, 1), api.Ratio{}}, {1, of(bound, 1), of(-1, 1), api.Ratio{}}, {0, of(bound, 1), of(-1, 1), of(bound-1, 1)}, {0, of(bound, 1), of(-bound, 1), of(0, 1)}, {0, of(bound, 1), of(bound, 1), api.Ratio{}}, {1, of(-bound, 1), of(bound, 1), api.Ratio{}}, {1, of(-bound, 1), of(-bound, 1), of(0, 1)},
		{0, of(bound/2, 1), of(bound/2, 1), of(bound, 1)}, {0, of(-bound/2, 1), of(-bound/2, 1), of(-bound, 1)}, {1, of(-bound/2, 1), of(bound/2, 1), of(-bound, 1)}, {0, of(bound/2, 1), of(bound/2+1, 1), api.Ratio{}}, {1, of(-bound/2, 1), of(bound/2+1, 1), api.Ratio{}},
		{0, of(1, bound), of(1, bound), of(1, bound/2)}, {1, of(1, bound), of(1, bound), of(0, 1)}, {0, of(1, bound), of(1, bound-1), api.Ratio{}}, {1, of(1, bound-1), of(1, bound), api.Ratio{}}, {0, of(1, bound), of(bound-1, bound), of(1, 1)}, {1, of(1, bound), of(bound-1, bound), of(1-bound/2, bound/2)}, {0, of(1, bound), of(1, 1), api.Ratio{}}, {1, of(1, bound), of(1, 1), of(1-bound, bound)}, {1, of(-1, bound), of(1, 1), api.Ratio{}},
		{0, of(1, 1<<15), of(1, 1<<15+1), api.Ratio{}}, {0, of(1, 1<<15), of(-1, 1<<15-1), of(-1, 1<<15*(1<<15-1))}, {0, of(bound-1, 2), of(1, 2), of(bound/2, 1)}, {0, of(bound-1, 2), of(bound-1, 2), of(bound-1, 1)}, {0, of(bound-1, 2), of(bound, 1), api.Ratio{}},
		{2, of(1<<15, 1), of(1<<15, 1), of(bound, 1)}, {2, of(-1<<15, 1), of(1<<15, 1), of(-bound, 1)}, {2, of(1<<15+1, 1), of(1<<15, 1), api.Ratio{}}, {2, of(-1<<15-1, 1), of(1<<15, 1), api.Ratio{}}, {2, of(1, 1<<15), of(-1, 1<<15), of(-1, bound)}, {2, of(1, 1<<15+1), of(1, 1<<15), api.Ratio{}}, {2, of(bound, 1), of(bound, 1), api.Ratio{}}, {2, of(-bound, 1), of(bound, 1), api.Ratio{}}, {2, of(1, bound), of(1, bound), api.Ratio{}},
		{2, of(bound, 1), of(1, bound), of(1, 1)}, {2, of(-bound, 1), of(-1, bound), of(1, 1)}, {2, of(bound, bound-1), of(bound-1, bound), of(1, 1)}, {2, of(bound-1, 2), of(3, 1), api.Ratio{}}, {2, of(bound, factor), of(factor, 1), of(bound, 1)}, {2, of(bound, factor), of(-factor, bound), of(-1, 1)}, {2, of(bound, 1), of(0, 1), of(0, 1)}, {2, of(-1, bound), of(0, 1), of(0, 1)}, {2, of(primeBelow, 2), of(2, primeBelow), of(1, 1)}, {2, of(primeBelow, 2), of(1, primeBelow), of(1, 2)},
	} {
		checkCall(t, calls()[x.call], x.a, x.b, x.want)
	}
}

// TestCallsAll: P4.2 and P4.3 for all pairs of right ratios.
func TestCallsAll(t *testing.T) {
	for _, c := range calls() {
		for _, a := range rights() {
			for _, b := range rights() {
				want, fail := expected(c.model(new(big.Rat), value(a), value(b)))
				if got, err := c.call(a, b); got != want || err != fail {
					t.Fatalf("%s(%v, %v) = %v, %d, want %v, %d", c.name, a, b, got, err, want, fail)
				}
			}
		}
	}
	for _, a := range rights() {
		for _, b := range rights() {
			if got, want := ratio.Cmp(a, b), value(a).Cmp(value(b)); got != want {
				t.Fatalf("Cmp(%v, %v) = %d, want %d", a, b, got, want)
			}
		}
	}
}

// TestCmpNear: P4.3 for fractions as near to each other as right ratios can be, and the greatest and least ones.
func TestCmpNear(t *testing.T) {
	for _, x := range []struct {
		a, b api.Ratio
		want int
	}{
		{of(1, bound), of(1, bound-1), -1}, {of(-1, bound), of(-1, bound-1), 1}, {of(bound-1, bound), of(bound-2, bound-1), 1}, {of(bound-1, bound), of(1, 1), -1}, {of(bound, bound-1), of(bound-1, bound-2), -1}, {of(1-bound, bound), of(2-bound, bound-1), -1},
		{of(bound/2-1, bound-1), of(1, 2), -1}, {of(bound/2, bound-1), of(1, 2), 1}, {of(bound, 1), of(bound-1, 1), 1}, {of(bound, 1), of(-bound, 1), 1}, {of(-bound, 1), of(1, bound), -1}, {of(0, 1), of(1, bound), -1}, {of(0, 1), of(-1, bound), 1}, {of(0, 1), of(0, 1), 0}, {of(1-bound, 2), of(-bound/2, 1), 1},
		{of(-3, 2), of(-3, 2), 0}, {of(-3, 2), of(3, 2), -1}, {of(2, 3), of(3, 4), -1}, {of(-2, 3), of(-3, 4), 1}, {of(3, 2), of(1, 1), 1}, {of(355, 113), of(22, 7), -1}, {of(bound, 1), of(bound, 1), 0},
	} {
		if got, back := ratio.Cmp(x.a, x.b), ratio.Cmp(x.b, x.a); got != x.want || back != -x.want {
			t.Errorf("Cmp(%v, %v) = %d, and %d the other way round", x.a, x.b, got, back)
		}
	}
}

// wrongPair is calls with a or b that is not right, or with both.
func wrongPair(t *testing.T, a, b api.Ratio) {
	t.Helper()
	for _, c := range calls() {
		if got, err := c.call(a, b); got != (api.Ratio{}) || err != api.ErrArg {
			t.Errorf("%s(%v, %v) = %v, %d, want ErrArg", c.name, a, b, got, err)
		}
	}
	if got := ratio.Cmp(a, b); got != 0 {
		t.Errorf("Cmp(%v, %v) = %d, want 0", a, b, got)
	}
}

// TestWrong: P4.2 and P4.3: ratios that are not right, in each place and in both, also where the result would be beyond, or there without the fault.
func TestWrong(t *testing.T) {
	for _, a := range wrongs() {
		for _, b := range rights() {
			wrongPair(t, a, b)
			wrongPair(t, b, a)
		}
		for _, b := range wrongs() {
			wrongPair(t, a, b)
		}
	}
}

// TestOrder: P4.6: Add and Mul do not depend on the order, Sub is Add of the opposite, and Cmp is an order: the one of the differences.
func TestOrder(t *testing.T) {
	for _, a := range rights() {
		if got := ratio.Cmp(a, a); got != 0 {
			t.Errorf("Cmp(%v, %v) = %d", a, a, got)
		}
		for _, b := range rights() {
			checkOrder(t, a, b)
		}
	}
	for _, a := range append(wrongs(), of(3, 2)) {
		for _, b := range append(wrongs(), of(3, 2)) {
			checkOrder(t, a, b)
		}
	}
}

func checkOrder(t *testing.T, a, b api.Ratio) {
	t.Helper()
	for _, c := range []call{calls()[0], calls()[2]} {
		got, err := c.call(a, b)
		if back, fail := c.call(b, a); got != back || err != fail {
			t.Errorf("%s of %v and %v depends on the order: %v, %d and %v, %d", c.name, a, b, got, err, back, fail)
		}
	}
	difference, err := ratio.Sub(a, b)
	if sum, fail := ratio.Add(a, opposite(b)); sum != difference || err != fail {
		t.Errorf("Sub(%v, %v) = %v, %d, but Add of the opposite is %v, %d", a, b, difference, err, sum, fail)
	}
	forth, back := ratio.Cmp(a, b), ratio.Cmp(b, a)
	if forth != -back || (isRight(a) && isRight(b) && (forth == 0) != (a == b)) {
		t.Errorf("Cmp of %v and %v is %d, and %d the other way round", a, b, forth, back)
	}
	if err == api.OK && ratio.Cmp(difference, of(0, 1)) != forth {
		t.Errorf("Cmp(%v, %v) = %d, but the difference is %v", a, b, forth, difference)
	}
}

// TestTransitive: P4.6: Cmp is an order: of three ratios, the first is less than the last one if each is less than the next.
func TestTransitive(t *testing.T) {
	l := rights()
	for i := 0; i < len(l); i += 3 {
		for j := 0; j < len(l); j += 3 {
			for k := 0; k < len(l); k += 3 {
				if ratio.Cmp(l[i], l[j]) < 0 && ratio.Cmp(l[j], l[k]) < 0 && ratio.Cmp(l[i], l[k]) >= 0 {
					t.Fatalf("Cmp is no order of %v, %v, %v", l[i], l[j], l[k])
				}
			}
		}
	}
}
