package scale_test

import (
	"math"
	"math/big"
	"slices"
	"testing"

	"quadrivium/api"
	"quadrivium/scale"
)

// TestMean: P5.4, with the example of the chapter: one grade, equal ones, many ones, of both signs, in lowest terms.
func TestMean(t *testing.T) {
	for _, x := range []struct {
		grades, credits []int
		n, d            int
	}{
		{[]int{70, 85}, []int{6, 3}, 75, 1},
		{[]int{75}, []int{5}, 75, 1}, {[]int{75}, []int{1}, 75, 1}, {[]int{0}, []int{60}, 0, 1}, {[]int{-7}, []int{60}, -7, 1}, {[]int{1000}, []int{60}, 1000, 1}, {[]int{-1000}, []int{60}, -1000, 1},
		{[]int{3, 3, 3}, []int{1, 17, 60}, 3, 1}, {[]int{-3, -3}, []int{2, 5}, -3, 1}, {[]int{0, 0}, []int{2, 5}, 0, 1},
		{[]int{1, 2}, []int{1, 1}, 3, 2}, {[]int{1, 2}, []int{1, 2}, 5, 3}, {[]int{2, 1}, []int{1, 2}, 4, 3}, {[]int{1, 2}, []int{2, 1}, 4, 3}, {[]int{1, 2, 3}, []int{2, 2, 2}, 2, 1}, {[]int{1, 2}, []int{2, 4}, 5, 3}, {[]int{1, 2, 4}, []int{1, 2, 3}, 17, 6},
		{[]int{-1, 2}, []int{1, 1}, 1, 2}, {[]int{1, -2}, []int{1, 1}, -1, 2}, {[]int{-1, -2}, []int{1, 2}, -5, 3}, {[]int{5, -5}, []int{7, 7}, 0, 1}, {[]int{3, -1}, []int{1, 3}, 0, 1}, {[]int{-1000, 1000}, []int{60, 1}, -59000, 61}, {[]int{1000, -1000}, []int{60, 60}, 0, 1}, {[]int{999, 1000}, []int{60, 59}, 118940, 119},
		{many(2000, 1000), many(2000, 60), 1000, 1}, {many(2000, -1000), many(2000, 60), -1000, 1}, {many(2000, 7), many(2000, 1), 7, 1}, {append(many(1999, 0), 1), many(2000, 1), 1, 2000}, {append(many(1999, 0), 1), many(2000, 60), 1, 2000}, {append(many(1999, 1000), 999), append(many(1999, 60), 59), 119998941, 119999}, {append(many(1999, -1000), -999), append(many(1999, 60), 59), -119998941, 119999}, {append(many(1999, 60), 1), append(many(1999, 1), 60), 120000, 2059},
	} {
		if got, err := scale.Mean(x.grades, x.credits); got != (api.Ratio{N: x.n, D: x.d}) || err != api.OK {
			t.Errorf("Mean(%d, %d) = %v, %d, want %d/%d", head(x.grades), head(x.credits), got, err, x.n, x.d)
		}
	}
}

// head is what a message shows of a list.
func head(l []int) []int {
	return l[:min(len(l), 8)]
}

// checkMean compares Mean with the mean by package big, and its arguments with themselves.
func checkMean(t *testing.T, grades, credits []int) {
	t.Helper()
	grades1, credits1 := slices.Clone(grades), slices.Clone(credits)
	got, err := scale.Mean(grades, credits)
	m := mean(grades1, credits1)
	want := api.Ratio{N: int(m.Num().Int64()), D: int(m.Denom().Int64())}
	if got != want || err != api.OK {
		t.Errorf("Mean(%d, %d) = %v, %d, want %v", head(grades), head(credits), got, err, want)
	}
	if !slices.Equal(grades, grades1) || !slices.Equal(credits, credits1) {
		t.Errorf("Mean(%d, %d) changed a list", head(grades1), head(credits1))
	}
}

// TestMeanAll: P5.4 for all short lists of small and edge numbers, and for long lists.
func TestMeanAll(t *testing.T) {
	marks, weights := []int{-1000, -999, -7, -1, 0, 1, 2, 5, 999, 1000}, []int{1, 2, 3, 7, 59, 60}
	for _, g := range marks {
		for _, c := range weights {
			checkMean(t, []int{g}, []int{c})
			for _, h := range marks {
				for _, d := range weights {
					checkMean(t, []int{g, h}, []int{c, d})
					checkMean(t, []int{g, -3, h}, []int{d, 4, c})
				}
			}
		}
	}
	for _, n := range []int{3, 59, 100, 1999, 2000} {
		for _, step := range []int{1, 7, 997, 1999} {
			var grades, credits []int
			for i := range n {
				grades, credits = append(grades, i*step%2001-1000), append(credits, i*(step+2)%60+1)
			}
			checkMean(t, grades, credits)
			checkMean(t, opposites(grades), credits)
		}
	}
}

// TestMeanEqual: P5.9: grades that are all equal have this grade as mean, whatever the credits.
func TestMeanEqual(t *testing.T) {
	for _, g := range []int{-1000, -999, -50, -1, 0, 1, 2, 75, 999, 1000} {
		for _, n := range []int{1, 2, 3, 61, 2000} {
			var credits []int
			for i := range n {
				credits = append(credits, (i*37+n)%60+1)
			}
			if got, err := scale.Mean(many(n, g), credits); got != (api.Ratio{N: g, D: 1}) || err != api.OK {
				t.Errorf("Mean of %d times %d = %v, %d", n, g, got, err)
			}
		}
	}
}

// TestMeanSplit: P5.4: a grade weighs as much as its credits, in whatever elements and order they are.
func TestMeanSplit(t *testing.T) {
	whole, _ := scale.Mean([]int{70, -15, 3}, []int{6, 3, 2})
	for _, x := range [][2][]int{{{3, 70, -15}, {2, 6, 3}}, {{70, 70, -15, 3}, {5, 1, 3, 2}}, {{70, -15, 3}, {60, 30, 20}}, {{-15, 3, 70, 3, -15}, {1, 1, 6, 1, 2}}} {
		if got, err := scale.Mean(x[0], x[1]); got != whole || err != api.OK {
			t.Errorf("Mean(%d, %d) = %v, %d, want %v", x[0], x[1], got, err, whole)
		}
	}
}

// lists are two lists for which there is no mean.
type lists struct {
	name            string
	grades, credits []int
	want            api.Errno
}

// wrongLists are lists with one fault, or with several, of which the first one counts.
func wrongLists() []lists {
	put := func(l []int, i, x int) []int {
		l = slices.Clone(l)
		l[i] = x
		return l
	}
	all := []lists{
		{"both nil", nil, nil, api.ErrArg}, {"both empty", []int{}, []int{}, api.ErrArg}, {"nil and empty", nil, []int{}, api.ErrArg}, {"empty and nil", []int{}, nil, api.ErrArg},
		{"grades nil", nil, []int{5}, api.ErrArg}, {"credits nil", []int{70}, nil, api.ErrArg}, {"grades empty", []int{}, []int{5, 5}, api.ErrArg}, {"credits empty", []int{70, 70}, []int{}, api.ErrArg},
		{"more grades", []int{70, 80}, []int{5}, api.ErrArg}, {"more credits", []int{70}, []int{5, 5}, api.ErrArg}, {"one of 2000 missing", many(2000, 70), many(1999, 5), api.ErrArg},
		{"2001", many(2001, 70), many(2001, 5), api.ErrMany}, {"many", many(100000, 70), many(100000, 5), api.ErrMany},
		{"2001 and 2000", many(2001, 70), many(2000, 5), api.ErrArg}, {"2000 and 2001", many(2000, 70), many(2001, 5), api.ErrArg}, {"2001 and nil", many(2001, 70), nil, api.ErrArg}, {"nil and 2001", nil, many(2001, 5), api.ErrArg}, {"2001 and 2002", many(2001, 70), many(2002, 5), api.ErrArg},
		{"different, no grade", []int{1001, 70}, []int{5}, api.ErrArg}, {"different, no credits", []int{70}, []int{0, 5}, api.ErrArg}, {"grade without credits", []int{1001}, nil, api.ErrArg}, {"credits without grade", nil, []int{61}, api.ErrArg},
		{"2001, no grade", many(2001, 1001), many(2001, 5), api.ErrMany}, {"2001, no credits", many(2001, 70), many(2001, 0), api.ErrMany}, {"2001, the last one wrong", put(many(2001, 70), 2000, -1001), put(many(2001, 5), 2000, 61), api.ErrMany}, {"2001, the first one wrong", put(many(2001, 70), 0, -1001), many(2001, 5), api.ErrMany},
		{"both wrong", []int{1001}, []int{0}, api.ErrRange}, {"wrong at different places", []int{70, -1001}, []int{61, 5}, api.ErrRange},
	}
	for _, g := range []int{-1001, 1001, -1002, 5000, math.MinInt, math.MinInt + 1, math.MaxInt, 1 << 32, 1<<32 + 70, -1 << 32} {
		all = append(all, lists{"grade", []int{g}, []int{5}, api.ErrRange}, lists{"first grade", []int{g, 70, 70}, []int{5, 5, 5}, api.ErrRange}, lists{"a grade", []int{70, g, 70}, []int{5, 5, 5}, api.ErrRange}, lists{"last grade", []int{70, 70, g}, []int{5, 5, 5}, api.ErrRange}, lists{"last of 2000 grades", put(many(2000, 70), 1999, g), many(2000, 5), api.ErrRange})
	}
	for _, c := range []int{0, 61, -1, -5, -60, 62, 1000, math.MinInt, math.MinInt + 1, math.MaxInt, 1 << 32, 1<<32 + 5, -1 << 32} {
		all = append(all, lists{"credits", []int{70}, []int{c}, api.ErrRange}, lists{"first credits", []int{70, 70, 70}, []int{c, 5, 5}, api.ErrRange}, lists{"some credits", []int{70, 70, 70}, []int{5, c, 5}, api.ErrRange}, lists{"last credits", []int{70, 70, 70}, []int{5, 5, c}, api.ErrRange}, lists{"last of 2000 credits", many(2000, 70), put(many(2000, 5), 1999, c), api.ErrRange})
	}
	return all
}

// TestMeanErrors: P5.4: lists for which there is no mean, and the order of the errors.
func TestMeanErrors(t *testing.T) {
	for _, x := range wrongLists() {
		if got, err := scale.Mean(x.grades, x.credits); got != (api.Ratio{}) || err != x.want {
			t.Errorf("%s: Mean(%d, %d) = %v, %d, want %d", x.name, head(x.grades), head(x.credits), got, err, x.want)
		}
	}
}

// TestMeanRange: P5.4: all grades and credits one by one, around those that are permitted.
func TestMeanRange(t *testing.T) {
	for g := -1100; g <= 1100; g++ {
		checkRange(t, g, 5, g >= -1000 && g <= 1000)
	}
	for c := -100; c <= 100; c++ {
		checkRange(t, 70, c, c >= 1 && c <= 60)
	}
}

// checkRange is a mean of one grade, which is the grade, or ErrRange.
func checkRange(t *testing.T, g, c int, ok bool) {
	t.Helper()
	want, fail := api.Ratio{}, api.ErrRange
	if ok {
		want, fail = api.Ratio{N: g, D: 1}, api.OK
	}
	if got, err := scale.Mean([]int{g}, []int{c}); got != want || err != fail {
		t.Errorf("Mean of %d with %d = %v, %d, want %v, %d", g, c, got, err, want, fail)
	}
}

// TestMeanBetween: P5.4: a mean lies between the least and the greatest grade.
func TestMeanBetween(t *testing.T) {
	for _, l := range [][]int{{1, 2}, {-7, 3, 5}, {1000, -1000, 999}, {6, 5, 6, 6}} {
		for c := 1; c <= 60; c++ {
			credits := many(len(l), 60)
			credits[0] = c
			m, err := scale.Mean(l, credits)
			if err != api.OK {
				t.Errorf("Mean(%d, %d): %d", l, credits, err)
				continue
			}
			value := big.NewRat(int64(m.N), int64(m.D))
			if value.Cmp(big.NewRat(int64(slices.Min(l)), 1)) <= 0 || value.Cmp(big.NewRat(int64(slices.Max(l)), 1)) >= 0 {
				t.Errorf("Mean(%d, %d) = %v", l, credits, m)
			}
		}
	}
}
