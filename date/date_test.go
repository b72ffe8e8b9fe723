package date_test

import (
	"math"
	"slices"
	"testing"

	"quadrivium/date"
)

// far are numbers far from all days and terms, up to the least and the greatest one.
func far() []int {
	return []int{
		math.MinInt, math.MinInt + 1, math.MinInt + 99, math.MinInt + 100, math.MinInt / 2, -1 << 40, -1 << 31, -100001, -100000,
		1 << 31, 1 << 40, math.MaxInt / 2, math.MaxInt - 100, math.MaxInt - 99, math.MaxInt - 1, math.MaxInt,
	}
}

// TestRight: P3.1: all numbers around the days, and some far from them.
func TestRight(t *testing.T) {
	for _, x := range []struct {
		day  int
		want bool
	}{
		{0, true}, {1, true}, {99, true}, {100, true}, {99999, true}, {100000, true}, {-1, false}, {-100, false}, {100001, false}, {100100, false},
	} {
		if got := date.Right(x.day); got != x.want {
			t.Errorf("Right(%d) = %v", x.day, got)
		}
	}
	for _, day := range far() {
		if date.Right(day) {
			t.Errorf("Right(%d)", day)
		}
	}
	right := 0
	for day := -1000; day <= 101000; day++ {
		if date.Right(day) {
			right++
		}
	}
	if right != 100001 {
		t.Errorf("%d days are right", right)
	}
}

// TestTerm: P3.2, with the examples of the chapter, and numbers that are no days.
func TestTerm(t *testing.T) {
	for _, x := range []struct{ day, term, year int }{
		{0, 0, 0}, {1, 0, 0}, {99, 0, 0}, {100, 1, 0}, {199, 1, 0}, {200, 2, 1}, {399, 3, 1}, {400, 4, 2}, {99999, 999, 499}, {100000, 1000, 500}, {100001, 1000, 500},
		{-1, -1, -1}, {-99, -1, -1}, {-100, -1, -1}, {-101, -2, -1}, {-200, -2, -1}, {-201, -3, -2}, {-400, -4, -2}, {-401, -5, -3},
		{math.MaxInt, 92233720368547758, 46116860184273879}, {math.MinInt, -92233720368547759, -46116860184273880},
		{-9223372036854775800, -92233720368547758, -46116860184273879}, {-9223372036854775801, -92233720368547759, -46116860184273880},
	} {
		if term, year := date.Term(x.day), date.Year(x.day); term != x.term || year != x.year {
			t.Errorf("Term and Year of %d = %d, %d", x.day, term, year)
		}
	}
}

// TestTermsInTurn: P3.2: 100 days a term and 2 terms a year, counted from long before the day 0 until behind the last day.
func TestTermsInTurn(t *testing.T) {
	day := -40000
	for year := -200; year <= 501; year++ {
		for half := range 2 {
			for range 100 {
				if got := date.Term(day); got != 2*year+half {
					t.Fatalf("Term(%d) = %d", day, got)
				}
				if got := date.Year(day); got != year {
					t.Fatalf("Year(%d) = %d", day, got)
				}
				day++
			}
		}
	}
}

// TestBegin: P3.2: both ends of terms, and how they wrap around.
func TestBegin(t *testing.T) {
	for _, x := range []struct{ term, begin, last int }{
		{0, 0, 99}, {1, 100, 199}, {3, 300, 399}, {999, 99900, 99999}, {1000, 100000, 100099}, {-1, -100, -1}, {-2, -200, -101},
		{92233720368547757, 9223372036854775700, 9223372036854775799}, {92233720368547758, 9223372036854775800, -9223372036854775717},
		{92233720368547759, -9223372036854775716, -9223372036854775617}, {-92233720368547758, -9223372036854775800, -9223372036854775701},
		{-92233720368547759, 9223372036854775716, -9223372036854775801}, {math.MaxInt, -100, -1}, {math.MinInt, 0, 99}, {math.MinInt + 1, 100, 199}, {math.MaxInt - 1, -200, -101},
	} {
		if begin, last := date.Begin(x.term), date.Last(x.term); begin != x.begin || last != x.last {
			t.Errorf("Begin and Last of %d = %d, %d, want %d, %d", x.term, begin, last, x.begin, x.last)
		}
	}
}

// TestGap: P3.8: each day lies in its term, and the terms follow each other, also where they wrap around.
func TestGap(t *testing.T) {
	for day := -100000; day <= 200000; day++ {
		if term := date.Term(day); date.Begin(term) > day || date.Last(term) < day {
			t.Fatalf("the day %d does not lie in its term, from %d to %d", day, date.Begin(term), date.Last(term))
		}
	}
	for term := -1000; term <= 2000; term++ {
		followed(t, term)
		if first, last := date.Term(date.Begin(term)), date.Term(date.Last(term)); first != term || last != term {
			t.Errorf("the ends of the term %d are in the terms %d and %d", term, first, last)
		}
	}
	for _, term := range far() {
		followed(t, term)
	}
}

func followed(t *testing.T, term int) {
	if date.Begin(term+1) != date.Last(term)+1 || date.Last(term) != date.Begin(term)+99 {
		t.Errorf("there is a gap, or a day too few, from %d to %d: the term %d", date.Begin(term), date.Last(term), term)
	}
}

// TestWithin: P3.3, with the examples of the chapter.
func TestWithin(t *testing.T) {
	for _, x := range []struct {
		day, begin, end int
		want            bool
	}{
		{5, 5, 9, true}, {8, 5, 9, true}, {9, 5, 9, false}, {4, 5, 9, false}, {10, 5, 9, false},
		{9, 5, 0, true}, {5, 5, 0, true}, {4, 5, 0, false}, {100000, 5, 0, true},
		{5, 5, 5, false}, {5, 5, 6, true}, {7, 9, 5, false}, {4, 9, 5, false}, {9, 9, 5, false}, {5, 9, 5, false},
		{0, 0, 0, true}, {1, 0, 0, true}, {-1, 0, 0, false}, {0, -5, 0, true}, {-1, -5, 0, true}, {-5, -5, 0, true}, {-6, -5, 0, false}, {3, -5, 0, true},
		{-3, -5, -2, true}, {-2, -5, -2, false}, {0, -5, -2, false}, {0, -5, 1, true}, {1, -5, 1, false}, {0, 0, 1, true}, {0, 0, -1, false}, {-1, 0, -1, false}, {-2, 0, -1, false},
		{math.MaxInt, math.MinInt, math.MaxInt, false}, {math.MaxInt - 1, math.MinInt, math.MaxInt, true}, {math.MinInt, math.MinInt, math.MaxInt, true},
		{math.MaxInt, math.MaxInt, 0, true}, {math.MaxInt, math.MinInt, 0, true}, {math.MinInt, math.MinInt, 0, true}, {math.MinInt, math.MinInt, math.MinInt, false},
		{math.MinInt, math.MinInt + 1, 0, false}, {math.MinInt, math.MinInt, math.MinInt + 1, true}, {0, math.MinInt, math.MinInt + 1, false},
	} {
		if got := date.Within(x.day, x.begin, x.end); got != x.want {
			t.Errorf("Within(%d, %d, %d) = %v", x.day, x.begin, x.end, got)
		}
	}
}

// window are the days from -8 to 8.
func window() []int {
	var l []int
	for day := -8; day <= 8; day++ {
		l = append(l, day)
	}
	return l
}

// days lists the days of the window in an interval.
func days(begin, end int) []int {
	if end == 0 {
		end = 9
	}
	var l []int
	for day := begin; day < end; day++ {
		l = append(l, day)
	}
	return l
}

// TestIntervals: P3.3 for all short intervals, against the lists of their days.
func TestIntervals(t *testing.T) {
	for b1 := -5; b1 <= 5; b1++ {
		for e1 := -6; e1 <= 6; e1++ {
			first := days(b1, e1)
			for _, day := range window() {
				if got := date.Within(day, b1, e1); got != slices.Contains(first, day) {
					t.Errorf("Within(%d, %d, %d) = %v", day, b1, e1, got)
				}
			}
			for b2 := -5; b2 <= 5; b2++ {
				for e2 := -6; e2 <= 6; e2++ {
					both := slices.ContainsFunc(days(b2, e2), func(day int) bool { return slices.Contains(first, day) })
					if got := date.Meet(b1, e1, b2, e2); got != both {
						t.Errorf("Meet(%d, %d, %d, %d) = %v", b1, e1, b2, e2, got)
					}
				}
			}
		}
	}
}

// TestMeet: P3.3: the examples of the chapter, and the same the other way round.
func TestMeet(t *testing.T) {
	for _, x := range []struct {
		b1, e1, b2, e2 int
		want           bool
	}{
		{1, 5, 5, 9, false}, {1, 6, 5, 0, true}, {1, 6, 5, 9, true}, {1, 5, 6, 9, false}, {1, 9, 3, 5, true}, {1, 9, 1, 9, true}, {1, 0, 5, 0, true}, {1, 0, 5, 6, true},
		{1, 5, 5, 0, false}, {1, 4, 5, 0, false}, {5, 5, 5, 5, false}, {5, 5, 1, 9, false}, {9, 1, 1, 0, false}, {9, 1, 9, 1, false}, {0, 0, 0, 0, true}, {0, 0, 0, 1, true},
		{0, 0, -5, -1, false}, {-5, 0, 0, 0, true}, {-5, 0, -9, -4, true}, {-5, 0, -9, -5, false}, {-5, -1, -3, 0, true}, {100000, 0, 0, 0, true}, {100000, 0, 0, 100000, false},
		{math.MaxInt, 0, math.MinInt, 0, true}, {math.MaxInt, 0, math.MinInt, math.MaxInt, false}, {math.MinInt, math.MinInt, math.MinInt, 0, false}, {math.MinInt, 0, math.MinInt, math.MinInt + 1, true},
		{math.MaxInt - 1, math.MaxInt, math.MinInt, math.MaxInt, true}, {math.MaxInt, math.MaxInt, math.MaxInt, 0, false}, {math.MinInt, math.MaxInt, math.MaxInt, math.MinInt, false},
	} {
		if got := date.Meet(x.b1, x.e1, x.b2, x.e2); got != x.want {
			t.Errorf("Meet(%d, %d, %d, %d) = %v", x.b1, x.e1, x.b2, x.e2, got)
		}
		if got := date.Meet(x.b2, x.e2, x.b1, x.e1); got != x.want {
			t.Errorf("Meet(%d, %d, %d, %d) = %v", x.b2, x.e2, x.b1, x.e1, got)
		}
	}
}
