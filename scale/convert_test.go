package scale_test

import (
	"math"
	"math/big"
	"slices"
	"testing"

	"quadrivium/api"
	"quadrivium/scale"
)

func conv(num, add, den, round int) api.Conv {
	return api.Conv{Num: num, Add: add, Den: den, Round: round}
}

// wide is a scale on which small numbers lie.
func wide() api.Scale {
	return of(-1000, 1000, 0)
}

// TestCheckConv: P5.5: each number at its bounds and next to them, up to the least and the greatest number.
func TestCheckConv(t *testing.T) {
	for _, x := range []struct {
		c    api.Conv
		want api.Errno
	}{
		{conv(1, 0, 20, 3), api.OK}, {conv(-1, 110, 20, 3), api.OK}, {conv(0, 0, 1, 1), api.OK}, {conv(1000, 1000, 1000, 4), api.OK}, {conv(-1000, -1000, 1, 2), api.OK}, {conv(-1000, 1000, 1000, 1), api.OK}, {conv(1000, -1000, 1, 3), api.OK},
		{api.Conv{}, api.ErrRange}, {conv(1001, 0, 1, 1), api.ErrRange}, {conv(-1001, 0, 1, 1), api.ErrRange}, {conv(1, 1001, 1, 1), api.ErrRange}, {conv(1, -1001, 1, 1), api.ErrRange}, {conv(1, 0, 0, 1), api.ErrRange}, {conv(1, 0, -1, 1), api.ErrRange}, {conv(1, 0, 1001, 1), api.ErrRange}, {conv(1, 0, -1000, 1), api.ErrRange},
		{conv(1, 0, 1, 0), api.ErrRange}, {conv(1, 0, 1, -1), api.ErrRange}, {conv(1, 0, 1, 5), api.ErrRange}, {conv(1, 0, 1, 1<<32+1), api.ErrRange}, {conv(1, 0, 1<<32+1, 1), api.ErrRange}, {conv(1<<32, 0, 1, 1), api.ErrRange}, {conv(1, -1<<32, 1, 1), api.ErrRange},
		{conv(1001, 1001, 1001, 5), api.ErrRange}, {conv(math.MinInt, math.MinInt, math.MinInt, math.MinInt), api.ErrRange}, {conv(math.MaxInt, math.MaxInt, math.MaxInt, math.MaxInt), api.ErrRange},
	} {
		if got := scale.CheckConv(x.c); got != x.want {
			t.Errorf("CheckConv(%v) = %d", x.c, got)
		}
	}
}

// isConv says what P5.5 says of conversions.
func isConv(c api.Conv) bool {
	return c.Den > 0 && c.Den < 1001 && c.Num > -1001 && c.Num < 1001 && c.Add > -1001 && c.Add < 1001 && c.Round > 0 && c.Round < 5
}

// convs are conversions with all edges in each number.
func convs() []api.Conv {
	var l []api.Conv
	for _, num := range edges() {
		for _, add := range edges() {
			for _, den := range edges() {
				for _, round := range []int{math.MinInt, -1, 0, 1, 2, 3, 4, 5, 1<<32 + 1, math.MaxInt} {
					l = append(l, conv(num, add, den, round))
				}
			}
		}
	}
	return l
}

// TestCheckConvAll: P5.5 for all edges in each number, and for all numbers in one of them.
func TestCheckConvAll(t *testing.T) {
	l := convs()
	for n := -1100; n <= 1100; n++ {
		l = append(l, conv(n, 5, 7, 1), conv(5, n, 7, 2), conv(5, 7, n, 3), conv(5, 7, 9, n))
	}
	for _, c := range l {
		want := api.ErrRange
		if isConv(c) {
			want = api.OK
		}
		if got := scale.CheckConv(c); got != want {
			t.Errorf("CheckConv(%v) = %d, want %d", c, got, want)
		}
	}
}

// TestConvert: P5.6, with the examples of the chapter: numbers by each of the ways, on the scale and beyond its ends, and from one direction to the other.
func TestConvert(t *testing.T) {
	marks := of(6, 1, 4)
	for _, x := range []struct {
		c               api.Conv
		to              api.Scale
		grades, credits []int
		want            [4]int
	}{
		{conv(-1, 110, 20, 0), marks, []int{75}, []int{5}, [4]int{1, 2, 2, 2}}, {conv(-1, 110, 20, 0), marks, []int{110}, []int{5}, [4]int{1, 1, 1, 1}}, {conv(1, 0, 20, 0), of(0, 10, 5), []int{50}, []int{5}, [4]int{2, 3, 3, 2}},
		{conv(-1, 110, 20, 0), marks, []int{60}, []int{5}, [4]int{2, 3, 3, 2}}, {conv(-1, 110, 20, 0), marks, []int{40}, []int{5}, [4]int{3, 4, 4, 4}}, {conv(-1, 110, 20, 0), marks, []int{50}, []int{5}, [4]int{3, 3, 3, 3}}, {conv(-1, 110, 20, 0), marks, []int{0}, []int{5}, [4]int{5, 6, 6, 6}}, {conv(-1, 110, 20, 0), marks, []int{-20}, []int{5}, [4]int{6, 6, 6, 6}}, {conv(-1, 110, 20, 0), marks, []int{-11}, []int{5}, [4]int{6, 6, 6, 6}},
		{conv(-20, 120, 1, 0), of(0, 100, 50), []int{2}, []int{5}, [4]int{80, 80, 80, 80}}, {conv(-20, 120, 1, 0), of(0, 100, 50), []int{2, 3}, []int{5, 4}, [4]int{71, 72, 71, 71}}, {conv(-20, 120, 1, 0), of(0, 100, 50), []int{0}, []int{5}, [4]int{100, 100, 100, 100}}, {conv(-20, 120, 1, 0), of(0, 100, 50), []int{7}, []int{5}, [4]int{0, 0, 0, 0}},
		{conv(1, 0, 1, 0), wide(), []int{1, 2}, []int{1, 1}, [4]int{1, 2, 2, 2}}, {conv(1, 0, 1, 0), wide(), []int{2, 3}, []int{7, 7}, [4]int{2, 3, 3, 2}}, {conv(-1, 0, 1, 0), wide(), []int{1, 2}, []int{1, 1}, [4]int{-2, -1, -1, -2}}, {conv(-1, 0, 1, 0), wide(), []int{2, 3}, []int{7, 7}, [4]int{-3, -2, -2, -2}}, {conv(1, 0, 1, 0), wide(), []int{-1, -2}, []int{1, 1}, [4]int{-2, -1, -1, -2}}, {conv(-1, 0, 1, 0), wide(), []int{-2, -3}, []int{7, 7}, [4]int{2, 3, 3, 2}},
		{conv(1, 0, 2, 0), wide(), []int{1}, []int{3}, [4]int{0, 1, 1, 0}}, {conv(1, 0, 2, 0), wide(), []int{-1}, []int{3}, [4]int{-1, 0, 0, 0}}, {conv(1, -1, 2, 0), wide(), []int{-2}, []int{3}, [4]int{-2, -1, -1, -2}}, {conv(0, 3, 2, 0), wide(), []int{77}, []int{3}, [4]int{1, 2, 2, 2}}, {conv(0, -7, 2, 0), wide(), []int{77}, []int{3}, [4]int{-4, -3, -3, -4}}, {conv(0, 0, 1000, 0), wide(), []int{77}, []int{3}, [4]int{0, 0, 0, 0}},
		{conv(1, 0, 3, 0), wide(), []int{1}, []int{3}, [4]int{0, 1, 0, 0}}, {conv(1, 0, 3, 0), wide(), []int{2}, []int{3}, [4]int{0, 1, 1, 1}}, {conv(1, 0, 3, 0), wide(), []int{-1}, []int{3}, [4]int{-1, 0, 0, 0}}, {conv(1, 0, 3, 0), wide(), []int{-2}, []int{3}, [4]int{-1, 0, -1, -1}}, {conv(1, 0, 3, 0), wide(), []int{7}, []int{3}, [4]int{2, 3, 2, 2}}, {conv(1, 0, 3, 0), wide(), []int{-8}, []int{3}, [4]int{-3, -2, -3, -3}}, {conv(1, 0, 3, 0), wide(), []int{-9}, []int{3}, [4]int{-3, -3, -3, -3}}, {conv(1, 0, 3, 0), wide(), []int{9}, []int{3}, [4]int{3, 3, 3, 3}},
		{conv(1, 0, 1000, 0), wide(), []int{499}, []int{3}, [4]int{0, 1, 0, 0}}, {conv(1, 0, 1000, 0), wide(), []int{500}, []int{3}, [4]int{0, 1, 1, 0}}, {conv(1, 0, 1000, 0), wide(), []int{501}, []int{3}, [4]int{0, 1, 1, 1}}, {conv(1, 0, 1000, 0), wide(), []int{-499}, []int{3}, [4]int{-1, 0, 0, 0}}, {conv(1, 0, 1000, 0), wide(), []int{-500}, []int{3}, [4]int{-1, 0, 0, 0}}, {conv(1, 0, 1000, 0), wide(), []int{-501}, []int{3}, [4]int{-1, 0, -1, -1}},
		{conv(1, 1000, 1000, 0), wide(), []int{499}, []int{3}, [4]int{1, 2, 1, 1}}, {conv(1, 1000, 1000, 0), wide(), []int{500}, []int{3}, [4]int{1, 2, 2, 2}}, {conv(1, 1000, 1000, 0), wide(), []int{501}, []int{3}, [4]int{1, 2, 2, 2}}, {conv(1, -1000, 1000, 0), wide(), []int{-499}, []int{3}, [4]int{-2, -1, -1, -1}}, {conv(1, -1000, 1000, 0), wide(), []int{-500}, []int{3}, [4]int{-2, -1, -1, -2}}, {conv(1, -1000, 1000, 0), wide(), []int{-501}, []int{3}, [4]int{-2, -1, -2, -2}},
		{conv(1, 0, 2, 0), of(0, 3, 1), []int{7}, []int{3}, [4]int{3, 3, 3, 3}}, {conv(1, 0, 2, 0), of(3, 0, 1), []int{7}, []int{3}, [4]int{3, 3, 3, 3}}, {conv(1, 0, 2, 0), of(0, 3, 1), []int{-1}, []int{3}, [4]int{0, 0, 0, 0}}, {conv(1, 0, 2, 0), of(3, 0, 1), []int{-1}, []int{3}, [4]int{0, 0, 0, 0}}, {conv(1, 0, 2, 0), of(-9, -5, -7), []int{77}, []int{3}, [4]int{-5, -5, -5, -5}}, {conv(1, 0, 2, 0), of(-5, -9, -7), []int{-77}, []int{3}, [4]int{-9, -9, -9, -9}}, {conv(1, 0, 2, 0), of(1, 4, 2), []int{1}, []int{3}, [4]int{1, 1, 1, 1}},
		{conv(1000, 1000, 1, 0), wide(), []int{1000}, []int{60}, [4]int{1000, 1000, 1000, 1000}}, {conv(1000, -1000, 1, 0), wide(), []int{-1000}, []int{60}, [4]int{-1000, -1000, -1000, -1000}}, {conv(1000, 0, 1000, 0), wide(), []int{-1000}, []int{60}, [4]int{-1000, -1000, -1000, -1000}}, {conv(-1000, 1000, 1000, 0), wide(), []int{-999}, []int{60}, [4]int{1000, 1000, 1000, 1000}}, {conv(1000, 1000, 1000, 0), wide(), []int{999}, []int{60}, [4]int{1000, 1000, 1000, 1000}}, {conv(1000, 0, 1, 0), of(6, 1, 4), []int{1000}, []int{60}, [4]int{6, 6, 6, 6}},
	} {
		for i, want := range x.want {
			x.c.Round = i + 1
			if got, err := scale.Convert(x.c, x.to, x.grades, x.credits); got != want || err != api.OK {
				t.Errorf("Convert(%v, %v, %d, %d) = %d, %d, want %d", x.c, x.to, x.grades, x.credits, got, err, want)
			}
		}
	}
}

// TestConvertOnce: P5.6: what is rounded twice, or before it is multiplied, would be another number.
func TestConvertOnce(t *testing.T) {
	for _, x := range []struct {
		c               api.Conv
		grades, credits []int
		want            [4]int
	}{
		{conv(1, 0, 10, 0), []int{4, 5}, []int{1, 1}, [4]int{0, 1, 0, 0}},                            // 9/20, as 9/2 is no 5
		{conv(10, 0, 1, 0), []int{1, 2}, []int{2, 1}, [4]int{13, 14, 13, 13}},                        // 40/3
		{conv(2, 0, 1, 0), []int{1, 2}, []int{1, 1}, [4]int{3, 3, 3, 3}},                             // 3
		{conv(1, 1, 2, 0), []int{1, 2}, []int{3, 1}, [4]int{1, 2, 1, 1}},                             // 9/8
		{conv(1, 1, 2, 0), []int{1, 2}, []int{1, 1}, [4]int{1, 2, 1, 1}},                             // 5/4
		{conv(3, 1, 4, 0), []int{2, 3, 4}, []int{1, 1, 2}, [4]int{2, 3, 3, 3}},                       // 43/16
		{conv(1, 0, 4, 0), []int{9, 10}, []int{1, 1}, [4]int{2, 3, 2, 2}},                            // 19/8
		{conv(1, 0, 2, 0), []int{4, 5}, []int{59, 1}, [4]int{2, 3, 2, 2}},                            // 241/120
		{conv(1, 0, 2, 0), []int{4, 5}, []int{1, 59}, [4]int{2, 3, 2, 2}},                            // 299/120
		{conv(1, 0, 2, 0), []int{5, 6}, []int{59, 1}, [4]int{2, 3, 3, 3}},                            // 301/120
		{conv(1, 0, 2, 0), []int{-5, -6}, []int{59, 1}, [4]int{-3, -2, -3, -3}},                      // -301/120
		{conv(1, 0, 2, 0), []int{-4, -5}, []int{1, 59}, [4]int{-3, -2, -2, -2}},                      // -299/120
		{conv(1, 0, 2, 0), append(many(1999, 5), 4), many(2000, 60), [4]int{2, 3, 2, 2}},             // 9999/4000
		{conv(1, 0, 2, 0), append(many(1999, 5), 6), many(2000, 60), [4]int{2, 3, 3, 3}},             // 10001/4000
		{conv(1, 0, 2, 0), append(many(1999, 6), 7), many(2000, 60), [4]int{3, 4, 3, 3}},             // 12001/4000
		{conv(1, 0, 2, 0), append(many(1999, 6), 5), many(2000, 60), [4]int{2, 3, 3, 3}},             // 11999/4000
		{conv(-1, 0, 2, 0), append(many(1999, 6), 5), many(2000, 60), [4]int{-3, -2, -3, -3}},        // -11999/4000
		{conv(1, 0, 2, 0), append(many(1999, 5), 6, 4)[1:], many(2000, 60), [4]int{2, 3, 3, 2}},      // 5/2
		{conv(-1, 0, 2, 0), append(many(1999, 7), 8, 6)[1:], many(2000, 60), [4]int{-4, -3, -3, -4}}, // -7/2
	} {
		for i, want := range x.want {
			x.c.Round = i + 1
			if got, err := scale.Convert(x.c, wide(), x.grades, x.credits); got != want || err != api.OK {
				t.Errorf("Convert(%v, %d, %d) = %d, %d, want %d", x.c, head(x.grades), head(x.credits), got, err, want)
			}
		}
	}
}

// checkConvert compares Convert, in each way of rounding, with the definition, and its arguments with themselves.
func checkConvert(t *testing.T, c api.Conv, to api.Scale, grades, credits []int) {
	t.Helper()
	grades1, credits1 := slices.Clone(grades), slices.Clone(credits)
	x := number(c, mean(grades, credits))
	for how := 1; how <= 4; how++ {
		c.Round = how
		want := nearest(to, rounded(t, x, how))
		if got, err := scale.Convert(c, to, grades, credits); got != want || err != api.OK {
			t.Errorf("Convert(%v, %v, %d, %d) = %d, %d, want %d", c, to, head(grades), head(credits), got, err, want)
		}
	}
	if !slices.Equal(grades, grades1) || !slices.Equal(credits, credits1) {
		t.Errorf("Convert(%v, %v, %d, %d) changed a list", c, to, head(grades1), head(credits1))
	}
}

// TestConvertAll: P5.6 for small conversions of all small grades.
func TestConvertAll(t *testing.T) {
	for num := -3; num <= 3; num++ {
		for add := -4; add <= 4; add++ {
			for den := 1; den <= 6; den++ {
				for g := -7; g <= 7; g++ {
					checkConvert(t, conv(num, add, den, 0), wide(), []int{g}, []int{5})
					checkConvert(t, conv(num, add, den, 0), of(2, -2, 1), []int{g, g + 1}, []int{3, 4})
				}
			}
		}
	}
}

// TestConvertEdges: P5.6 for conversions with numbers at their bounds, to all the scales.
func TestConvertEdges(t *testing.T) {
	lists := [][2][]int{{{1000}, {60}}, {{-1000}, {1}}, {{0}, {7}}, {{77, -999}, {59, 60}}, {{999, 1000, 998}, {60, 59, 1}}, {{-500, 499}, {1, 1}}}
	for _, num := range []int{-1000, -999, -1, 0, 1, 7, 999, 1000} {
		for _, add := range []int{-1000, -499, 0, 1, 1000} {
			for _, den := range []int{1, 2, 999, 1000} {
				for i, s := range scales() {
					l := lists[(i+num*num+add*add+den)%len(lists)]
					checkConvert(t, conv(num, add, den, 0), s, l[0], l[1])
				}
				for _, l := range lists {
					checkConvert(t, conv(num, add, den, 0), wide(), l[0], l[1])
				}
			}
		}
	}
}

// allCredits are the credits of summing together.
const allCredits = 1999*60 + 1

// summing returns 2000 grades, whose sum, each times its credits, is sum: some are greater by 1 than the others, and the last one, with 1 credit, makes up the rest.
func summing(sum int) (grades, credits []int) {
	base, rest := sum/allCredits, sum%allCredits
	if rest < 0 {
		base, rest = base-1, rest+allCredits
	}
	grades = append(many(rest/60, base+1), many(1999-rest/60, base)...)
	return append(grades, base+rest%60), append(many(1999, 60), 1)
}

// solve returns the sum for which twice the numerator of a converted mean of summing is an odd multiple of its denominator, plus more.
func solve(t *testing.T, c api.Conv, more int) int {
	t.Helper()
	d := allCredits * c.Den
	twice := d + more - 2*c.Add*allCredits
	if d%2 == 0 || twice%2 != 0 {
		t.Fatalf("no sum for %v and %d", c, more)
	}
	modulus, inverse := big.NewInt(int64(d)), new(big.Int)
	if inverse.ModInverse(big.NewInt(int64(c.Num)), modulus) == nil {
		t.Fatalf("%d has no inverse", c.Num)
	}
	inverse.Mul(inverse, big.NewInt(int64(twice/2)))
	return int(inverse.Mod(inverse, modulus).Int64())
}

// TestConvertGreat: P5.6: numbers next to a half, by a part in more than 2 * 10^8, with a numerator greater than that of a right ratio, of both signs.
func TestConvertGreat(t *testing.T) {
	for _, c := range []api.Conv{conv(997, 0, 999, 0), conv(997, 3, 999, 0), conv(-997, 1000, 991, 0), conv(1000, -1000, 999, 0), conv(-1000, 7, 999, 0), conv(-499, 1, 999, 0), conv(61, 0, 991, 0)} {
		great := 0
		for _, more := range []int{-1, 1, -3, 3, -5, 5, -7, 7, 9, -9} {
			for _, sum := range []int{solve(t, c, more), solve(t, c, more) - allCredits*c.Den} {
				grades, credits := summing(sum)
				if slices.Max(grades) > 1000 || slices.Min(grades) < -1000 {
					continue
				}
				x := number(c, mean(grades, credits))
				from := new(big.Rat).Sub(x, big.NewRat(int64(rounded(t, x, 1)), 1))
				if want := big.NewRat(int64(allCredits*c.Den+more), int64(2*allCredits*c.Den)); from.Cmp(want) != 0 {
					t.Fatalf("%v is not next to a half: %v", x, from)
				}
				if x.Num().CmpAbs(big.NewInt(1<<30)) > 0 {
					great++
				}
				checkConvert(t, c, wide(), grades, credits)
			}
		}
		if great < 5 {
			t.Errorf("%v: only %d great numbers", c, great)
		}
	}
}

// TestConvertMany: P5.6 for long lists of grades of both signs, and for those with the greatest sums.
func TestConvertMany(t *testing.T) {
	for _, c := range []api.Conv{conv(1, 0, 1, 0), conv(-997, 991, 983, 0), conv(1000, 1000, 1, 0), conv(-1000, -1000, 1, 0), conv(1000, 0, 1000, 0), conv(0, 499, 998, 0)} {
		for _, sum := range []int{0, 1, -1, 59, -60, allCredits / 2, -allCredits / 2, 75*allCredits + 119880, 940*allCredits + 1, 941*allCredits - 1, -999 * allCredits, -1000*allCredits + 7} {
			grades, credits := summing(sum)
			checkConvert(t, c, wide(), grades, credits)
			checkConvert(t, c, of(6, 1, 4), grades, credits)
		}
		checkConvert(t, c, wide(), many(2000, 1000), many(2000, 60))
		checkConvert(t, c, wide(), many(2000, -1000), many(2000, 60))
	}
}

// TestConvertErrors: P5.6: one fault, and several at once: that of the conversion counts first, then that of the scale, then that of the lists.
func TestConvertErrors(t *testing.T) {
	wrongConvs := []api.Conv{{}, conv(1001, 0, 1, 1), conv(-1001, 0, 1, 1), conv(1, 1001, 1, 1), conv(1, -1001, 1, 1), conv(1, 0, 0, 1), conv(1, 0, -1, 1), conv(1, 0, 1001, 1), conv(1, 0, 1, 0), conv(1, 0, 1, 5), conv(1, 0, math.MinInt, 1), conv(math.MinInt, math.MaxInt, math.MaxInt, 4)}
	rightConv, rightScale, rightLists := conv(1, 0, 1, 1), of(0, 100, 50), lists{"right", []int{70, 80}, []int{5, 5}, api.OK}
	for _, c := range append(wrongConvs, rightConv) {
		for _, to := range append(wrongScales(), rightScale) {
			for _, l := range append(wrongLists(), rightLists) {
				want := l.want
				if !isValid(to) {
					want = api.ErrScale
				}
				if !isConv(c) {
					want = api.ErrRange
				}
				if want == api.OK {
					continue
				}
				if got, err := scale.Convert(c, to, l.grades, l.credits); got != 0 || err != want {
					t.Errorf("%s: Convert(%v, %v, %d, %d) = %d, %d, want %d", l.name, c, to, head(l.grades), head(l.credits), got, err, want)
				}
			}
		}
	}
	if got, err := scale.Convert(rightConv, rightScale, rightLists.grades, rightLists.credits); got != 75 || err != api.OK {
		t.Errorf("without a fault: %d, %d", got, err)
	}
}

// TestConvertOrder: P5.9: what is returned lies on the scale; a greater grade does not give a lesser one, if Num is positive, nor a greater one, if it is negative; if it is 0, all give the same.
func TestConvertOrder(t *testing.T) {
	for _, c := range []api.Conv{conv(1, 0, 20, 0), conv(1, 7, 3, 0), conv(1000, -999, 7, 0), conv(-1, 110, 20, 0), conv(-13, 2, 9, 0), conv(0, 55, 10, 0), conv(0, -1000, 3, 0)} {
		for how := 1; how <= 4; how++ {
			c.Round = how
			for _, to := range scales() {
				before := 0
				for g := -1000; g <= 1000; g += 8 {
					n, err := scale.Convert(c, to, []int{g}, []int{5})
					if err != api.OK || !scale.Right(to, n) {
						t.Fatalf("Convert(%v, %v, %d) = %d, %d", c, to, g, n, err)
					}
					if g > -1000 && (c.Num >= 0 && n < before || c.Num <= 0 && n > before) {
						t.Fatalf("Convert(%v, %v) gives %d for %d, and %d before", c, to, n, g, before)
					}
					before = n
				}
			}
		}
	}
}

// TestConvertEqual: P5.9: many equal grades are converted as one of them.
func TestConvertEqual(t *testing.T) {
	for g := -1000; g <= 1000; g += 25 {
		for how := 1; how <= 4; how++ {
			c := conv(-7, 30, 60, how)
			one, _ := scale.Convert(c, wide(), []int{g}, []int{1})
			if all, err := scale.Convert(c, wide(), many(61, g), append(many(60, 59), 60)); all != one || err != api.OK {
				t.Errorf("Convert(%v) of one and 61 times %d = %d and %d, %d", c, g, one, all, err)
			}
		}
	}
}

// TestConvertOpposite: P5.6: with the other sign of Num and Add, and of the scale, the number is the opposite one: down becomes up, and even stays even.
func TestConvertOpposite(t *testing.T) {
	ways := map[int]int{1: 2, 2: 1, 4: 4}
	for _, to := range scales() {
		for g := -30; g <= 30; g++ {
			for how, other := range ways {
				n, _ := scale.Convert(conv(3, 5, 4, how), to, []int{g}, []int{5})
				if m, err := scale.Convert(conv(-3, -5, 4, other), opposite(to), []int{g}, []int{5}); m != -n || err != api.OK {
					t.Errorf("%d is converted to %d on %v by %d, and to %d on the opposite", g, n, to, how, m)
				}
			}
		}
	}
}
