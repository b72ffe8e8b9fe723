package key_test

import (
	"math"
	"slices"
	"testing"

	"quadrivium/api"
	"quadrivium/key"
)

// TestCheck: P6.1, with the examples of the chapter: all edges, and faults that meet.
func TestCheck(t *testing.T) {
	const big = math.MaxInt
	a := of(1, "a", 50, 0)
	for i, x := range []struct {
		keys []api.Key
		want api.Errno
	}{
		{example().Keys, api.OK}, {nil, api.OK}, {[]api.Key{}, api.OK}, {[]api.Key{a}, api.OK}, {keys(20), api.OK}, {keys(21), api.ErrMany}, {keys(1000), api.ErrMany},
		{[]api.Key{of(0, "a", 0, 0)}, api.ErrRange}, {[]api.Key{of(1, "a", 0, 0)}, api.OK}, {[]api.Key{of(-1, "a", 0, 0)}, api.ErrRange}, {[]api.Key{of(math.MinInt, "a", 0, 0)}, api.ErrRange}, {[]api.Key{of(big, "a", 0, 0)}, api.OK},
		{[]api.Key{of(1, "", 0, 0)}, api.ErrRange}, {[]api.Key{of(1, long(40), 0, 0)}, api.OK}, {[]api.Key{of(1, long(41), 0, 0)}, api.ErrRange}, {[]api.Key{of(1, "\x00", 0, 0)}, api.OK}, {[]api.Key{of(1, "ééééééééééééééééééééé", 0, 0)}, api.ErrRange},
		{[]api.Key{a, of(1, "b", 50, 0)}, api.ErrOrder}, {[]api.Key{a, of(2, "b", 50, 0)}, api.OK}, {[]api.Key{a, of(0, "b", 50, 0)}, api.ErrRange}, {[]api.Key{of(7, "a", 50, 0), of(6, "b", 50, 0)}, api.ErrOrder}, {[]api.Key{of(big, "a", 50, 0), of(1, "b", 50, 0)}, api.ErrOrder}, {[]api.Key{a, of(big, "b", 50, 0)}, api.OK}, {[]api.Key{a, of(3, "b", 50, 0), of(2, "c", 50, 0)}, api.ErrOrder}, {[]api.Key{a, of(3, "b", 50, 0), of(1, "c", 50, 0)}, api.ErrOrder},
		{[]api.Key{of(1, "a", -1, 0)}, api.ErrDate}, {[]api.Key{of(1, "a", 0, 0)}, api.OK}, {[]api.Key{of(1, "a", 100000, 0)}, api.OK}, {[]api.Key{of(1, "a", 100001, 0)}, api.ErrDate}, {[]api.Key{of(1, "a", math.MinInt, 0)}, api.ErrDate}, {[]api.Key{of(1, "a", big, 0)}, api.ErrDate},
		{[]api.Key{of(1, "a", 50, -1)}, api.ErrDate}, {[]api.Key{of(1, "a", 50, 1)}, api.ErrDate}, {[]api.Key{of(1, "a", 50, 49)}, api.ErrDate}, {[]api.Key{of(1, "a", 50, 50)}, api.OK}, {[]api.Key{of(1, "a", 50, 51)}, api.OK}, {[]api.Key{of(1, "a", 50, 100000)}, api.OK}, {[]api.Key{of(1, "a", 50, 100001)}, api.ErrDate}, {[]api.Key{of(1, "a", 50, big)}, api.ErrDate}, {[]api.Key{of(1, "a", 50, math.MinInt)}, api.ErrDate},
		{[]api.Key{of(1, "a", 0, -1)}, api.ErrDate}, {[]api.Key{of(1, "a", 0, 1)}, api.OK}, {[]api.Key{of(1, "a", 100000, 100000)}, api.OK}, {[]api.Key{of(1, "a", 100000, 99999)}, api.ErrDate}, {[]api.Key{of(1, "a", -2, -1)}, api.ErrDate}, {[]api.Key{of(1, "a", 100001, 100001)}, api.ErrDate},
		{[]api.Key{a, of(2, "b", 49, 0)}, api.ErrOrder}, {[]api.Key{a, of(2, "b", 50, 0)}, api.OK}, {[]api.Key{a, of(2, "b", 0, 0)}, api.ErrOrder}, {[]api.Key{a, of(2, "b", 51, 0), of(3, "c", 50, 0)}, api.ErrOrder}, {[]api.Key{of(1, "a", 50, 70), of(2, "b", 60, 60), of(3, "c", 100000, 0)}, api.OK}, {[]api.Key{of(1, "a", 50, 70), of(2, "a", 50, 50)}, api.OK},
		{[]api.Key{a, of(1, "", 50, 0)}, api.ErrRange}, {[]api.Key{a, of(1, long(41), 0, -1)}, api.ErrRange}, {[]api.Key{a, of(1, "b", 50, -1)}, api.ErrOrder}, {[]api.Key{a, of(1, "b", -1, 0)}, api.ErrOrder}, {[]api.Key{a, of(2, "b", -1, 0)}, api.ErrDate}, {[]api.Key{a, of(2, "b", 49, 48)}, api.ErrDate}, {[]api.Key{a, of(2, "b", 49, 100001)}, api.ErrDate}, {[]api.Key{of(0, "a", -1, 0)}, api.ErrRange}, {[]api.Key{of(1, "", -1, -1)}, api.ErrRange},
		{[]api.Key{of(1, "a", -1, 0), of(0, "", 0, 0)}, api.ErrDate}, {[]api.Key{of(0, "a", 0, 0), of(1, "a", -1, 0)}, api.ErrRange}, {[]api.Key{a, of(1, "b", 50, 0), of(0, "", -1, 0)}, api.ErrOrder}, {[]api.Key{a, of(2, "b", 49, 0), of(0, "", -1, 0)}, api.ErrOrder}, {[]api.Key{a, of(2, "b", 49, 0), of(3, "c", 48, -1)}, api.ErrOrder},
	} {
		if got := key.Check(ring(3, x.keys...)); got != x.want {
			t.Errorf("%d: Check = %d, want %d", i, got, x.want)
		}
	}
}

// TestCheckSchools: P6.1: the schools that there are, and which of several faults counts.
func TestCheckSchools(t *testing.T) {
	for school := -20; school <= 20; school++ {
		want := api.ErrArg
		if school >= 1 && school <= 8 {
			want = api.OK
		}
		for _, l := range [][]api.Key{nil, keys(1), keys(20)} {
			if got := key.Check(ring(school, l...)); got != want {
				t.Errorf("Check of %d keys of the school %d = %d", len(l), school, got)
			}
		}
	}
	wrong := []int{math.MinInt, math.MinInt + 1, math.MinInt + 8, -1 << 32, -8, 0, 9, 256 + 1, 1<<32 + 1, math.MaxInt}
	for _, school := range wrong {
		for _, l := range [][]api.Key{nil, keys(1), keys(21), make([]api.Key, 1), make([]api.Key, 21), {of(1, "a", -1, 0)}} {
			if got := key.Check(ring(school, l...)); got != api.ErrArg {
				t.Errorf("Check of %d keys of the school %d = %d", len(l), school, got)
			}
		}
	}
}

// TestCheckMany: P6.1: too many keys count before all faults of keys.
func TestCheckMany(t *testing.T) {
	for n := range 60 {
		want := api.OK
		if n > 20 {
			want = api.ErrMany
		}
		if got := key.Check(ring(3, keys(n)...)); got != want {
			t.Errorf("Check of %d keys = %d", n, got)
		}
	}
	for _, n := range []int{21, 22, 100, 100000} {
		if got := key.Check(ring(3, make([]api.Key, n)...)); got != api.ErrMany {
			t.Errorf("Check of %d zero keys = %d", n, got)
		}
	}
	if got := key.Check(ring(3, make([]api.Key, 20)...)); got != api.ErrRange {
		t.Errorf("Check of 20 zero keys = %d", got)
	}
}

// someKeys are all keys of some Ids, secrets and days around the edges.
func someKeys() []api.Key {
	var l []api.Key
	for _, id := range []int{0, 1, 2} {
		for _, secret := range []string{"", "a", long(40), long(41)} {
			for _, from := range []int{-1, 0, 1, 100000, 100001} {
				for _, stolen := range []int{-1, 0, 1, 2, 100000, 100001} {
					l = append(l, of(id, secret, from, stolen))
				}
			}
		}
	}
	return l
}

// TestCheckPairs: P6.1, compared with the definition for all pairs of keys, and all places of a third one that is right.
func TestCheckPairs(t *testing.T) {
	check := func(r api.Ring) {
		if got, want := key.Check(r), modelCheck(r); got != want {
			t.Errorf("Check(%v) = %d, want %d", r, got, want)
		}
	}
	third := of(1, "c", 1, 0)
	for _, a := range someKeys() {
		check(ring(3, a))
		for _, b := range someKeys() {
			check(ring(3, a, b))
		}
		check(ring(3, third, a))
		check(ring(3, a, third))
		check(ring(3, of(2, "c", 50, 0), a, third))
		check(ring(3, a, third, of(0, "d", 0, 0)))
	}
}

// TestCheckEdges: P6.1 for the least and the greatest numbers, and for the rings of the lists.
func TestCheckEdges(t *testing.T) {
	for _, from := range edges() {
		for _, stolen := range edges() {
			for _, id := range []int{math.MinInt, -1, 0, 1, 1 << 32, math.MaxInt} {
				r := ring(3, of(id, "a", from, stolen))
				if got, want := key.Check(r), modelCheck(r); got != want {
					t.Errorf("Check(%v) = %d, want %d", r, got, want)
				}
			}
		}
	}
	for _, r := range rightRings() {
		if got := key.Check(r); got != api.OK || modelCheck(r) != api.OK {
			t.Errorf("Check(%v) = %d", r, got)
		}
	}
	for _, r := range wrongRings() {
		if got := key.Check(r); got == api.OK || got != modelCheck(r) {
			t.Errorf("Check(%v) = %d", r, got)
		}
	}
}

// TestCurrent: P6.4, with the examples of the chapter.
func TestCurrent(t *testing.T) {
	one, two := of(1, "a", 10, 0), of(4, "b", 50, 0)
	lost := func(k api.Key, day int) api.Key {
		k.Stolen = day
		return k
	}
	for i, x := range []struct {
		r    api.Ring
		day  int
		id   int
		want bool
	}{
		{example(), 49, 1, true}, {example(), 50, 4, true}, {example(), 0, 1, true}, {example(), -1, 0, false}, {example(), 100000, 4, true}, {example(), 100001, 4, true}, {example(), math.MaxInt, 4, true}, {example(), math.MinInt, 0, false},
		{ring(3), 0, 0, false}, {ring(3), 100, 0, false}, {ring(3, one), 9, 0, false}, {ring(3, one), 10, 1, true}, {ring(3, one), 11, 1, true}, {ring(3, one, two), 9, 0, false}, {ring(3, one, two), 30, 1, true}, {ring(3, one, two), 51, 4, true},
		{ring(3, one, lost(two, 70)), 69, 4, true}, {ring(3, one, lost(two, 70)), 70, 1, true}, {ring(3, one, lost(two, 70)), 71, 1, true}, {ring(3, one, lost(two, 50)), 50, 1, true}, {ring(3, one, lost(two, 51)), 50, 4, true},
		{ring(3, lost(one, 60), lost(two, 70)), 60, 4, true}, {ring(3, lost(one, 60), lost(two, 70)), 69, 4, true}, {ring(3, lost(one, 60), lost(two, 70)), 70, 0, false}, {ring(3, lost(one, 80), lost(two, 70)), 70, 1, true}, {ring(3, lost(one, 80), lost(two, 70)), 79, 1, true}, {ring(3, lost(one, 80), lost(two, 70)), 80, 0, false}, {ring(3, lost(one, 20), two), 30, 0, false}, {ring(3, lost(one, 20), two), 19, 1, true}, {ring(3, lost(one, 20), two), 50, 4, true},
		{ring(3, of(1, "a", 50, 0), of(2, "b", 50, 0)), 50, 2, true}, {ring(3, of(1, "a", 50, 0), of(2, "b", 50, 0)), 49, 0, false}, {ring(3, of(1, "a", 50, 0), of(2, "b", 50, 51)), 51, 1, true}, {ring(3, of(1, "a", 0, 1)), 0, 1, true}, {ring(3, of(1, "a", 0, 1)), 1, 0, false},
		{ring(3, two, one), 60, 1, true}, {ring(3, two, lost(one, 60)), 60, 4, true}, {ring(3, two, one), 49, 1, true}, {ring(3, of(4, "a", 0, 0), of(4, "b", 50, 0)), 49, 4, true}, {ring(0, of(0, "", 0, 0)), 0, 0, true}, {ring(0, of(0, "", 0, 0)), -1, 0, false}, {ring(-1, of(-7, "", -9, -5)), -6, -7, true}, {ring(-1, of(-7, "", -9, -5)), -5, 0, false}, {ring(-1, of(-7, "", -9, -5)), -10, 0, false},
		{ring(3, of(7, "a", math.MinInt, 0)), math.MinInt, 7, true}, {ring(3, of(7, "a", math.MinInt, math.MinInt)), math.MinInt, 0, false}, {ring(3, of(7, "a", math.MinInt, math.MaxInt)), math.MaxInt - 1, 7, true}, {ring(3, of(7, "a", math.MinInt, math.MaxInt)), math.MaxInt, 0, false}, {ring(3, of(7, "a", math.MaxInt, 0)), math.MaxInt, 7, true}, {ring(3, of(7, "a", math.MaxInt, 0)), math.MaxInt - 1, 0, false}, {ring(3, of(math.MinInt, "a", 0, 0)), 0, math.MinInt, true}, {ring(3, of(1, "a", 0, -1)), 5, 0, false},
	} {
		if id, ok := key.Current(x.r, x.day); id != x.id || ok != x.want {
			t.Errorf("%d: Current(%v, %d) = %d, %v", i, x.r, x.day, id, ok)
		}
	}
}

// TestCurrentAll: P6.4, compared with the definition for all rings of the lists, right or not, on many days, and that no ring is changed (R3).
func TestCurrentAll(t *testing.T) {
	days := edges()
	for day := -3; day <= 260; day++ {
		days = append(days, day)
	}
	for _, r := range slices.Concat(rightRings(), wrongRings(), []api.Ring{ring(1, make([]api.Key, 3000)...)}) {
		r, all := roomy(r)
		before := slices.Clone(all)
		for _, day := range days {
			id, ok := key.Current(r, day)
			if wantId, want := modelCurrent(r, day); id != wantId || ok != want {
				t.Errorf("Current(%v, %d) = %d, %v", r, day, id, ok)
			}
		}
		if key.Check(r); !slices.Equal(all, before) {
			t.Errorf("Check or Current changed %v", before)
		}
	}
}

// TestCurrentPairs: P6.4, compared with the definition for all pairs of keys of small numbers.
func TestCurrentPairs(t *testing.T) {
	var l []api.Key
	for from := -2; from <= 2; from++ {
		for stolen := -2; stolen <= 3; stolen++ {
			l = append(l, of(from+3, "a", from, stolen))
		}
	}
	for _, a := range l {
		for _, b := range l {
			for day := -4; day <= 4; day++ {
				id, ok := key.Current(ring(3, a, b), day)
				if wantId, want := modelCurrent(ring(3, a, b), day); id != wantId || ok != want {
					t.Errorf("Current of %v and %v on %d = %d, %v", a, b, day, id, ok)
				}
			}
		}
	}
}
