package scale_test

import (
	"math"
	"testing"

	"quadrivium/api"
	"quadrivium/scale"
)

// TestCheck: P5.1, with the examples of the chapter: both directions, Pass at the ends and next to them, and the ends of all scales.
func TestCheck(t *testing.T) {
	for _, x := range []struct {
		worst, best, pass int
		want              api.Errno
	}{
		{0, 100, 50, api.OK}, {6, 1, 4, api.OK}, {5, 5, 5, api.ErrScale}, {0, 10, 11, api.ErrScale},
		{0, 1, 0, api.OK}, {0, 1, 1, api.OK}, {0, 1, 2, api.ErrScale}, {0, 1, -1, api.ErrScale}, {1, 0, 0, api.OK}, {1, 0, 1, api.OK}, {1, 0, 2, api.ErrScale}, {1, 0, -1, api.ErrScale},
		{-1000, 1000, 0, api.OK}, {1000, -1000, 0, api.OK}, {-1001, 1000, 0, api.ErrScale}, {-1000, 1001, 0, api.ErrScale}, {1001, -1000, 0, api.ErrScale}, {1000, -1001, 0, api.ErrScale}, {-1001, 1001, 0, api.ErrScale},
		{-1000, 1000, -1000, api.OK}, {-1000, 1000, 1000, api.OK}, {-1000, 1000, -1001, api.ErrScale}, {-1000, 1000, 1001, api.ErrScale}, {1000, -1000, -1000, api.OK}, {1000, -1000, 1000, api.OK}, {1000, -1000, -1001, api.ErrScale}, {1000, -1000, 1001, api.ErrScale},
		{999, 1000, 1000, api.OK}, {-999, -1000, -1000, api.OK}, {1000, 1001, 1000, api.ErrScale}, {1001, 1000, 1000, api.ErrScale}, {-1000, -1001, -1000, api.ErrScale}, {-1001, -1000, -1000, api.ErrScale}, {1000, 1000, 1000, api.ErrScale}, {-1000, -1000, -1000, api.ErrScale}, {0, 0, 0, api.ErrScale}, {0, 0, 1, api.ErrScale},
		{math.MinInt, 1000, 0, api.ErrScale}, {-1000, math.MinInt, -1000, api.ErrScale}, {math.MaxInt, 1000, 1000, api.ErrScale}, {0, math.MaxInt, 0, api.ErrScale}, {math.MinInt, math.MaxInt, 0, api.ErrScale}, {math.MaxInt, math.MinInt, 0, api.ErrScale}, {0, 10, math.MinInt, api.ErrScale}, {0, 10, math.MaxInt, api.ErrScale}, {10, 0, math.MinInt, api.ErrScale}, {10, 0, math.MaxInt, api.ErrScale},
		{-30, -90, -50, api.OK}, {-90, -30, -50, api.OK}, {-90, -30, 50, api.ErrScale}, {-30, -90, 50, api.ErrScale}, {-90, -30, -91, api.ErrScale}, {-90, -30, -29, api.ErrScale}, {1 << 32, 1, 4, api.ErrScale}, {6, 1, 1<<32 + 4, api.ErrScale},
	} {
		if got := scale.Check(of(x.worst, x.best, x.pass)); got != x.want {
			t.Errorf("Check of %d, %d, %d = %d", x.worst, x.best, x.pass, got)
		}
	}
}

// checkCheck compares Check with the definition.
func checkCheck(t *testing.T, s api.Scale) {
	t.Helper()
	want := api.ErrScale
	if isValid(s) {
		want = api.OK
	}
	if got := scale.Check(s); got != want {
		t.Errorf("Check(%v) = %d, want %d", s, got, want)
	}
}

// TestCheckAll: P5.1 for all short scales, for all of three edges, and for those of the lists.
func TestCheckAll(t *testing.T) {
	for worst := -9; worst <= 9; worst++ {
		for best := -9; best <= 9; best++ {
			for pass := -10; pass <= 10; pass++ {
				checkCheck(t, of(worst, best, pass))
			}
		}
	}
	for _, worst := range edges() {
		for _, best := range edges() {
			for _, pass := range edges() {
				checkCheck(t, of(worst, best, pass))
			}
		}
	}
	for _, s := range append(scales(), wrongScales()...) {
		checkCheck(t, s)
	}
}

// TestGrades: P5.2 and P5.3, with the examples of the chapter: grades that are better, the same and worse, in both directions.
func TestGrades(t *testing.T) {
	marks, points := of(6, 1, 4), of(0, 100, 50)
	for _, x := range []struct {
		name      string
		got, want bool
	}{
		{"Better in 6, 1, 4: of 2 and 3", scale.Better(marks, 2, 3), true}, {"Better in 6, 1, 4: of 3 and 2", scale.Better(marks, 3, 2), false}, {"Better in 6, 1, 4: of 2 and 2", scale.Better(marks, 2, 2), false}, {"Better in 6, 1, 4: of 1 and 6", scale.Better(marks, 1, 6), true},
		{"Better in 6, 1, 4: of 1 and 7", scale.Better(marks, 1, 7), false}, {"Better in 6, 1, 4: of 0 and 1", scale.Better(marks, 0, 1), false},
		{"Better in 0, 100, 50: of 81 and 80", scale.Better(points, 81, 80), true}, {"Better in 0, 100, 50: of 80 and 81", scale.Better(points, 80, 81), false}, {"Better in 0, 100, 50: of 80 and 80", scale.Better(points, 80, 80), false}, {"Better in 0, 100, 50: of 100 and 0", scale.Better(points, 100, 0), true},
		{"Better in 0, 100, 50: of 101 and 50", scale.Better(points, 101, 50), false}, {"Better in 0, 100, 50: of 50 and -1", scale.Better(points, 50, -1), false},
		{"Passed in 6, 1, 4: of 4", scale.Passed(marks, 4), true}, {"Passed in 6, 1, 4: of 5", scale.Passed(marks, 5), false}, {"Passed in 6, 1, 4: of 1", scale.Passed(marks, 1), true}, {"Passed in 6, 1, 4: of 6", scale.Passed(marks, 6), false}, {"Passed in 6, 1, 4: of 0", scale.Passed(marks, 0), false},
		{"Passed in 0, 100, 50: of 50", scale.Passed(points, 50), true}, {"Passed in 0, 100, 50: of 49", scale.Passed(points, 49), false}, {"Passed in 0, 100, 50: of 100", scale.Passed(points, 100), true}, {"Passed in 0, 100, 50: of 0", scale.Passed(points, 0), false}, {"Passed in 0, 100, 50: of 101", scale.Passed(points, 101), false},
		{"Reaches in 6, 1, 4: of 2 and 2", scale.Reaches(marks, 2, 2), true}, {"Reaches in 6, 1, 4: of 2 and 3", scale.Reaches(marks, 2, 3), true}, {"Reaches in 6, 1, 4: of 3 and 2", scale.Reaches(marks, 3, 2), false},
		{"Reaches in 6, 1, 4: of 6 and 7", scale.Reaches(marks, 6, 7), true}, {"Reaches in 6, 1, 4: of 1 and 0", scale.Reaches(marks, 1, 0), false}, {"Reaches in 6, 1, 4: of 7 and 9", scale.Reaches(marks, 7, 9), false}, {"Reaches in 6, 1, 4: of 0 and 3", scale.Reaches(marks, 0, 3), false},
		{"Reaches in 0, 100, 50: of 70 and 70", scale.Reaches(points, 70, 70), true}, {"Reaches in 0, 100, 50: of 71 and 70", scale.Reaches(points, 71, 70), true}, {"Reaches in 0, 100, 50: of 69 and 70", scale.Reaches(points, 69, 70), false},
		{"Reaches in 0, 100, 50: of 0 and -1", scale.Reaches(points, 0, -1), true}, {"Reaches in 0, 100, 50: of 100 and 101", scale.Reaches(points, 100, 101), false}, {"Reaches in 0, 100, 50: of 101 and 70", scale.Reaches(points, 101, 70), false}, {"Reaches in 0, 100, 50: of -1 and -9", scale.Reaches(points, -1, -9), false},
		{"Reaches in 0, 100, 50: of 0 and the least number", scale.Reaches(points, 0, math.MinInt), true}, {"Reaches in 0, 100, 50: of 100 and the greatest number", scale.Reaches(points, 100, math.MaxInt), false}, {"Reaches in 6, 1, 4: of 6 and the greatest number", scale.Reaches(marks, 6, math.MaxInt), true}, {"Reaches in 6, 1, 4: of 1 and the least number", scale.Reaches(marks, 1, math.MinInt), false},
	} {
		if x.got != x.want {
			t.Errorf("%s: %v", x.name, x.got)
		}
	}
}

// near are numbers on a scale, next to it, and far from it: all that matter for short scales, and those around its ends and Pass for long ones.
func near(s api.Scale) []int {
	l := edges()
	for _, n := range []int{s.Worst, s.Best, s.Pass, (s.Worst + s.Best) / 2} {
		l = append(l, n-2, n-1, n, n+1, n+2)
	}
	if all := grades(s); len(all) <= 30 {
		l = append(l, all...)
	}
	return l
}

// TestGradesAll: P5.2 and P5.3 for all pairs of numbers that are near one of the scales, compared with the list of its grades.
func TestGradesAll(t *testing.T) {
	for _, s := range scales() {
		rank := map[int]int{}
		for i, g := range grades(s) {
			rank[g] = i
		}
		for _, a := range near(s) {
			rankA, rightA := rank[a]
			if got := scale.Right(s, a); got != rightA {
				t.Errorf("Right(%v, %d) = %v", s, a, got)
			}
			if got := scale.Passed(s, a); got != reaches(s, a, s.Pass) {
				t.Errorf("Passed(%v, %d) = %v", s, a, got)
			}
			for _, b := range near(s) {
				rankB, rightB := rank[b]
				if got := scale.Better(s, a, b); got != (rightA && rightB && rankA > rankB) {
					t.Errorf("Better(%v, %d, %d) = %v", s, a, b, got)
				}
				if got := scale.Reaches(s, a, b); got != reaches(s, a, b) {
					t.Errorf("Reaches(%v, %d, %d) = %v", s, a, b, got)
				}
			}
		}
	}
}

// TestRightAll: P5.2: as many numbers are Right as the scale has.
func TestRightAll(t *testing.T) {
	for _, s := range scales() {
		count := 0
		for g := -1100; g <= 1100; g++ {
			if scale.Right(s, g) {
				count++
			}
		}
		if count != len(grades(s)) {
			t.Errorf("%d numbers are Right in %v", count, s)
		}
	}
}

// TestGradesWrong: P5.2 and P5.3: on a scale that is not valid no grade lies, so none is better, passes or reaches anything.
func TestGradesWrong(t *testing.T) {
	for _, s := range wrongScales() {
		numbers := append(edges(), s.Worst, s.Best, s.Pass, 3, 4, 5, 6, 7, 10, 11)
		for _, a := range numbers {
			if scale.Right(s, a) || scale.Passed(s, a) {
				t.Errorf("Right or Passed in %v: %d", s, a)
			}
			for _, b := range numbers {
				if scale.Better(s, a, b) || scale.Reaches(s, a, b) {
					t.Errorf("Better or Reaches in %v: %d, %d", s, a, b)
				}
			}
		}
	}
}

// TestOrder: P5.7: of two different grades exactly one is better, none is better than itself or than Best, and Worst is better than none.
func TestOrder(t *testing.T) {
	for _, s := range scales() {
		all := grades(s)
		if len(all) > 100 {
			all = append(all[:50], all[len(all)-50:]...)
		}
		for _, a := range all {
			if scale.Better(s, s.Worst, a) || scale.Better(s, a, s.Best) {
				t.Errorf("%v: Worst is better than %d, or this than Best", s, a)
			}
			for _, b := range all {
				one, other := scale.Better(s, a, b), scale.Better(s, b, a)
				if one && other || (one || other) != (a != b) {
					t.Errorf("Better in %v of %d and %d: %v, %v", s, a, b, one, other)
				}
			}
		}
	}
}

// TestOpposite: P5.7: with the other sign of the scale and of the grades nothing changes.
func TestOpposite(t *testing.T) {
	for _, s := range append(scales(), wrongScales()...) {
		o := opposite(s)
		if scale.Check(s) != scale.Check(o) {
			t.Errorf("Check of %v and its opposite differ", s)
		}
		numbers := append(edges(), s.Worst, s.Best, s.Pass, 3, 4, 5, 6, 7)
		for _, a := range numbers {
			if scale.Right(s, a) != scale.Right(o, -a) || scale.Passed(s, a) != scale.Passed(o, -a) {
				t.Errorf("Right or Passed of %d in %v and its opposite differ", a, s)
			}
			for _, b := range numbers {
				if b == math.MinInt { // it has no opposite
					continue
				}
				if scale.Better(s, a, b) != scale.Better(o, -a, -b) || scale.Reaches(s, a, b) != scale.Reaches(o, -a, -b) {
					t.Errorf("Better or Reaches of %d and %d in %v and its opposite differ", a, b, s)
				}
			}
		}
	}
}

// TestReaches: P5.8: what is better than a grade that reaches min reaches it, and Best passes.
func TestReaches(t *testing.T) {
	for _, s := range scales() {
		if !scale.Passed(s, s.Best) {
			t.Errorf("Best of %v does not pass", s)
		}
		for _, a := range near(s) {
			for _, b := range near(s) {
				if !scale.Better(s, a, b) {
					continue
				}
				if scale.Passed(s, b) && !scale.Passed(s, a) {
					t.Errorf("%v: %d passes, and %d, which is better, does not", s, b, a)
				}
				for _, least := range near(s) {
					if scale.Reaches(s, b, least) && !scale.Reaches(s, a, least) {
						t.Errorf("%v: %d reaches %d, and %d, which is better, does not", s, b, least, a)
					}
				}
			}
		}
	}
}
