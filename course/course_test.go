package course_test

import (
	"math"
	"slices"
	"strings"
	"testing"

	"quadrivium/api"
	"quadrivium/course"
)

// TestCode: P7.1, with the examples of the chapter: lengths, and bytes next to those that are permitted.
func TestCode(t *testing.T) {
	for s, want := range map[string]bool{
		"A1": true, "a1": false, "": false, "A": true, "0": true, "9": true, "Z": true, "ABCDEFGH": true, "ABCDEFGHI": false, "12345678": true, "123456789": false,
		"@": false, "[": false, "/": false, ":": false, "A@": false, "Z[": false, "0/": false, "9:": false, "@A": false, "/0": false, "a": false, "z": false, "AZ09": true, "A 1": false, " A": false, "A ": false, "A-1": false,
		"\x00": false, "A\x00": false, "\x7f": false, "\x80": false, "\xc1": false, "\xff": false, "É": false, "AÉ": false, "Ａ": false, "１": false, "AAAAAAAé": false, "AAAAAAAa": false, "aAAAAAAA": false, "AAAaAAAA": false,
	} {
		if got := course.Code(s); got != want {
			t.Errorf("Code(%q) = %v", s, got)
		}
	}
	for n := range 40 {
		if got := course.Code(strings.Repeat("Q", n)); got != (n >= 1 && n <= 8) {
			t.Errorf("Code of %d letters = %v", n, got)
		}
	}
	if course.Code(strings.Repeat("Q", 1<<20)) {
		t.Error("Code of a long string")
	}
}

// TestCodeAll: P7.1 for all strings of up to two bytes, and for each byte at each place of a code of eight.
func TestCodeAll(t *testing.T) {
	for c := range 256 {
		checkCode(t, string([]byte{byte(c)}))
		for d := range 256 {
			checkCode(t, string([]byte{byte(c), byte(d)}))
		}
		for at := range 8 {
			s := []byte("ABCD0189")
			s[at] = byte(c)
			checkCode(t, string(s))
		}
	}
}

// checkCode compares Code with the model.
func checkCode(t *testing.T, s string) {
	t.Helper()
	if got := course.Code(s); got != modelCode(s) {
		t.Errorf("Code(%q) = %v", s, got)
	}
}

// TestCheck: P7.2, with the examples of the chapter, and with each bound.
func TestCheck(t *testing.T) {
	const big = math.MaxInt
	for i, x := range []struct {
		change func(l []api.Offer)
		want   api.Errno
	}{
		{func(l []api.Offer) {}, api.OK}, {func(l []api.Offer) { l[1].Code = "B2" }, api.ErrTwice}, {func(l []api.Offer) { l[0].Needs = []string{"C1"} }, api.ErrCircle}, {func(l []api.Offer) { l[2].Needs = []string{"X"} }, api.ErrNone}, {func(l []api.Offer) { l[1].Credits = 61 }, api.ErrRange},
		{func(l []api.Offer) { l[0].Code = "a1" }, api.ErrCourse}, {func(l []api.Offer) { l[0].Code = "" }, api.ErrCourse}, {func(l []api.Offer) { l[3].Code = "C12345678" }, api.ErrCourse}, {func(l []api.Offer) { l[3].Code = "C1234567" }, api.OK}, {func(l []api.Offer) { l[3].Code = "C\xff" }, api.ErrCourse}, {func(l []api.Offer) { l[3].Code = "B1" }, api.ErrOrder}, {func(l []api.Offer) { l[3].Code = "B2" }, api.ErrTwice}, {func(l []api.Offer) { l[3].Code = "B20" }, api.OK}, {func(l []api.Offer) { l[3].Code = "B" }, api.ErrOrder}, {func(l []api.Offer) { l[3].Code = "9" }, api.ErrOrder},
		{func(l []api.Offer) { l[0].Credits = 0 }, api.ErrRange}, {func(l []api.Offer) { l[0].Credits = 1 }, api.OK}, {func(l []api.Offer) { l[0].Credits = 60 }, api.OK}, {func(l []api.Offer) { l[0].Credits = -1 }, api.ErrRange}, {func(l []api.Offer) { l[0].Credits = math.MinInt }, api.ErrRange}, {func(l []api.Offer) { l[0].Credits = big }, api.ErrRange},
		{func(l []api.Offer) { l[0].Places = -1 }, api.ErrRange}, {func(l []api.Offer) { l[0].Places = 0 }, api.OK}, {func(l []api.Offer) { l[0].Places = 200 }, api.OK}, {func(l []api.Offer) { l[0].Places = 201 }, api.ErrRange}, {func(l []api.Offer) { l[0].Places = math.MinInt }, api.ErrRange}, {func(l []api.Offer) { l[0].Places = big }, api.ErrRange},
		{func(l []api.Offer) { l[0].Slots[0] = 0 }, api.ErrRange}, {func(l []api.Offer) { l[0].Slots[1] = 40 }, api.OK}, {func(l []api.Offer) { l[0].Slots[1] = 41 }, api.ErrRange}, {func(l []api.Offer) { l[0].Slots = []int{1, 1} }, api.ErrOrder}, {func(l []api.Offer) { l[0].Slots = []int{2, 1} }, api.ErrOrder}, {func(l []api.Offer) { l[0].Slots = []int{1, 3, 2} }, api.ErrOrder}, {func(l []api.Offer) { l[0].Slots = []int{1, 3, 3} }, api.ErrOrder}, {func(l []api.Offer) { l[0].Slots = []int{1, 3, 1} }, api.ErrOrder}, {func(l []api.Offer) { l[0].Slots = []int{3, 2, 41} }, api.ErrRange}, {func(l []api.Offer) { l[0].Slots = []int{math.MinInt} }, api.ErrRange}, {func(l []api.Offer) { l[0].Slots = []int{big} }, api.ErrRange}, {func(l []api.Offer) { l[0].Slots = make([]int, 100000) }, api.ErrRange},
		{func(l []api.Offer) { l[3].Needs = []string{"B1", "B1"} }, api.ErrOrder}, {func(l []api.Offer) { l[3].Needs = []string{"B2", "B1"} }, api.ErrOrder}, {func(l []api.Offer) { l[3].Needs = []string{"A1", "B2", "B1"} }, api.ErrOrder}, {func(l []api.Offer) { l[3].Needs = []string{"A1", "B1", "B2"} }, api.OK}, {func(l []api.Offer) { l[3].Needs = []string{"A1", "B1", "B2", "X", "Y"} }, api.ErrNone}, {func(l []api.Offer) { l[3].Needs = []string{"A1", "B1", "B2", "X", "Y", "Z"} }, api.ErrMany}, {func(l []api.Offer) { l[3].Needs = make([]string, 6) }, api.ErrMany}, {func(l []api.Offer) { l[3].Needs = make([]string, 5) }, api.ErrOrder}, {func(l []api.Offer) { l[3].Needs = []string{""} }, api.ErrNone}, {func(l []api.Offer) { l[3].Needs = []string{"a1"} }, api.ErrNone}, {func(l []api.Offer) { l[3].Needs = []string{"A"} }, api.ErrNone}, {func(l []api.Offer) { l[3].Needs = []string{"A11"} }, api.ErrNone},
		{func(l []api.Offer) { l[0].Needs = []string{"A1"} }, api.ErrCircle}, {func(l []api.Offer) { l[3].Needs = []string{"C1"} }, api.ErrCircle}, {func(l []api.Offer) { l[0].Needs = []string{"B1"} }, api.ErrCircle}, {func(l []api.Offer) { l[2].Needs = []string{"C1"} }, api.ErrCircle}, {func(l []api.Offer) { l[0].Needs = []string{"B2"} }, api.OK}, {func(l []api.Offer) { l[0].Needs = []string{"B2", "C1"} }, api.ErrCircle},
	} {
		l := example()
		x.change(l)
		if got := course.Check(l); got != x.want {
			t.Errorf("%d: Check of %s = %d, want %d", i, short(l), got, x.want)
		}
	}
}

// TestCheckFirst: P7.2: of several faults the first one in the order of the chapter counts.
func TestCheckFirst(t *testing.T) {
	// The faults of one offer, behind which those that come later in the order are there as well.
	all := func(code string) api.Offer {
		return of(code, 0, -1, []int{0, 0}, "B", "B", "B", "B", "B", "B")
	}
	slots := func(code string) api.Offer {
		o := all(code)
		o.Credits, o.Places, o.Slots = 1, 0, []int{2, 2}
		return o
	}
	many := func(code string) api.Offer { o := slots(code); o.Slots = nil; return o }
	needs := func(code string) api.Offer { o := many(code); o.Needs = o.Needs[:2]; return o }
	none, circle := plain("X", "Y"), plain("X", "X")
	for i, x := range []struct {
		l    []api.Offer
		want api.Errno
	}{
		{[]api.Offer{plain("A"), all("a")}, api.ErrCourse}, {[]api.Offer{plain("a"), all("a")}, api.ErrCourse}, {[]api.Offer{plain("A"), all("A")}, api.ErrTwice}, {[]api.Offer{plain("B"), all("A")}, api.ErrOrder}, {[]api.Offer{plain("A"), all("B")}, api.ErrRange}, {[]api.Offer{plain("A"), slots("B")}, api.ErrOrder}, {[]api.Offer{plain("A"), many("B")}, api.ErrMany}, {[]api.Offer{plain("A"), needs("B")}, api.ErrOrder}, {[]api.Offer{all("A")}, api.ErrRange}, {[]api.Offer{slots("A")}, api.ErrOrder}, {[]api.Offer{many("A")}, api.ErrMany},
		{[]api.Offer{slots("A"), all("B")}, api.ErrOrder}, {[]api.Offer{many("A"), all("a")}, api.ErrMany}, {[]api.Offer{needs("A"), many("B")}, api.ErrOrder}, {[]api.Offer{all("A"), slots("B")}, api.ErrRange}, {[]api.Offer{all("A"), plain("A")}, api.ErrRange},
		{[]api.Offer{none, plain("X")}, api.ErrTwice}, {[]api.Offer{none, plain("W")}, api.ErrOrder}, {[]api.Offer{none, many("Z")}, api.ErrMany}, {[]api.Offer{circle, plain("z")}, api.ErrCourse}, {[]api.Offer{circle, all("Z")}, api.ErrRange}, {[]api.Offer{circle, needs("Z")}, api.ErrOrder},
		{[]api.Offer{plain("A", "A"), none}, api.ErrNone}, {[]api.Offer{plain("A", "C"), plain("B", "B")}, api.ErrNone}, {[]api.Offer{plain("A", "A", "B")}, api.ErrNone}, {[]api.Offer{plain("A", "A"), plain("B", "C")}, api.ErrNone}, {[]api.Offer{circle, plain("Z")}, api.ErrCircle}, {append(rising(59), plain("D", "D")), api.ErrCircle}, {append(rising(60), plain("D", "D")), api.ErrMany}, {append(loose(60), all("")), api.ErrMany}, {make([]api.Offer, 61), api.ErrMany}, {make([]api.Offer, 60), api.ErrCourse}, {make([]api.Offer, 100000), api.ErrMany},
	} {
		if got := course.Check(x.l); got != x.want {
			t.Errorf("%d: Check of %s = %d, want %d", i, short(x.l), got, x.want)
		}
	}
}

// TestCheckMany: P7.2: how many offers there are, and chains and circles through all of them.
func TestCheckMany(t *testing.T) {
	for n := 1; n < 100; n++ {
		want, round := api.OK, api.ErrCircle
		if n > 60 {
			want, round = api.ErrMany, api.ErrMany
		}
		for _, l := range [][]api.Offer{loose(n), rising(n), falling(n), dense(n)} {
			if got := course.Check(l); got != want {
				t.Errorf("Check of %d offers = %d", n, got)
			}
		}
		up, down := rising(n), falling(n)
		up[0].Needs, down[n-1].Needs = []string{up[n-1].Code}, []string{down[0].Code}
		for _, l := range [][]api.Offer{up, down} {
			if got := course.Check(l); got != round {
				t.Errorf("Check of a circle of %d offers = %d", n, got)
			}
		}
	}
}

// TestCheckAll: P7.2 for all small lists, for those of the lists, and for all edges of the numbers.
func TestCheckAll(t *testing.T) {
	for _, l := range slices.Concat(smallLists(), rightCatalogs(), wrongLists()) {
		checkCheck(t, l)
	}
	for _, n := range edges() {
		for _, m := range edges() {
			checkCheck(t, []api.Offer{of("A", n, m, nil)})
			checkCheck(t, []api.Offer{of("A", n, 0, []int{m}, "X")})
			checkCheck(t, []api.Offer{of("A", 1, n, []int{1, m}, "A")})
			checkCheck(t, []api.Offer{of("A", 1, 0, []int{n, m}), of("B", 1, 0, []int{m, n}), of("B", n, m, nil)})
		}
	}
	for _, l := range rightCatalogs() {
		must(t, l)
	}
	for _, l := range wrongLists() {
		if course.Check(l) == api.OK {
			t.Errorf("Check of %s = 0", short(l))
		}
	}
}

// checkCheck compares Check with the model.
func checkCheck(t *testing.T, l []api.Offer) {
	t.Helper()
	if got, want := course.Check(l), modelCheck(l); got != want {
		t.Errorf("Check of %s = %d, want %d", short(l), got, want)
	}
}

// TestFind: P7.3 for the first, the last and a middle offer, and for strings that no offer has.
func TestFind(t *testing.T) {
	l := example()
	for i, o := range l {
		if got, ok := course.Find(l, o.Code); !ok || !same(got, example()[i]) {
			t.Errorf("Find of %s = %v, %v", o.Code, got, ok)
		}
	}
	for _, code := range []string{"", "A", "A10", "a1", "C2", "0", "\xff"} {
		if got, ok := course.Find(l, code); ok || !same(got, api.Offer{}) {
			t.Errorf("Find of %q = %v, %v", code, got, ok)
		}
	}
	if _, ok := course.Find(nil, ""); ok {
		t.Error("Find in no offer")
	}
}

// TestFindWrong: P7.3: in a list that is not right, the first offer counts, and any string can be found.
func TestFindWrong(t *testing.T) {
	l := []api.Offer{of("B", 1, 1, nil, "X"), of("A", math.MinInt, math.MaxInt, []int{9, 9}, "B", "B"), of("B", 2, 2, []int{2}), of("", 3, 3, nil, "Z"), of("a\xff", -4, 4, nil), of("A", 5, 5, nil)}
	for code, at := range map[string]int{"B": 0, "A": 1, "": 3, "a\xff": 4} {
		if got, ok := course.Find(l, code); !ok || !same(got, l[at]) {
			t.Errorf("Find of %q = %v, %v", code, got, ok)
		}
	}
	for _, code := range []string{"X", "Z", "a", "AB"} {
		if got, ok := course.Find(l, code); ok || !same(got, api.Offer{}) {
			t.Errorf("Find of %q = %v, %v", code, got, ok)
		}
	}
}

// TestFindAll: P7.3 for those of the lists.
func TestFindAll(t *testing.T) {
	for _, l := range slices.Concat(rightCatalogs(), wrongLists()) {
		for _, code := range codesOf(l) {
			got, ok := course.Find(l, code)
			if want, there := modelFind(l, code); ok != there || !same(got, want) {
				t.Errorf("Find of %q in %s = %v, %v", code, short(l), got, ok)
			}
		}
	}
}

// TestClash: P7.3 and P7.9, with the examples of the chapter.
func TestClash(t *testing.T) {
	l := example()
	if !course.Clash(l[0], l[1]) || course.Clash(l[1], l[2]) {
		t.Error("Clash of A1 and B1, or of B1 and B2")
	}
	for i, x := range []struct {
		a, b []int
		want bool
	}{
		{nil, nil, false}, {nil, []int{}, false}, {[]int{1}, nil, false}, {[]int{1}, []int{1}, true}, {[]int{1}, []int{2}, false}, {[]int{1, 2}, []int{2, 3}, true}, {[]int{1, 2, 3}, []int{2, 3, 4}, true}, {[]int{1, 3, 5}, []int{2, 4, 6}, false}, {[]int{1, 40}, []int{40}, true}, {[]int{1, 40}, []int{1}, true}, {[]int{1, 2, 3}, []int{1, 2, 3}, true}, {[]int{1, 5, 9, 13}, []int{2, 3, 9, 20}, true},
		{[]int{0}, []int{0}, true}, {[]int{3, 1, 2}, []int{2}, true}, {[]int{9, 5, 1}, []int{2, 1}, true}, {[]int{7, 7}, []int{7, 7}, true}, {[]int{7, 7}, []int{8, 8}, false}, {[]int{-1}, []int{1}, false}, {[]int{math.MinInt}, []int{math.MinInt}, true}, {[]int{math.MaxInt}, []int{math.MinInt}, false}, {[]int{math.MaxInt, 41}, []int{200, math.MaxInt}, true}, {[]int{1 << 32}, []int{0}, false},
	} {
		a, b := of("A", 1, 1, x.a), of("B", 1, 1, x.b, "A")
		if course.Clash(a, b) != x.want || course.Clash(b, a) != x.want {
			t.Errorf("%d: Clash of %v and %v is not %v", i, x.a, x.b, x.want)
		}
	}
	if !course.Clash(plain("A"), plain("A")) || course.Clash(api.Offer{}, api.Offer{}) || course.Clash(api.Offer{}, plain("")) {
		t.Error("Clash of an offer with itself, or of an offer at no time")
	}
}

// TestClashAll: P7.3 and P7.9 for all short lists of edges.
func TestClashAll(t *testing.T) {
	lists := [][]int{nil}
	for _, n := range edges() {
		for _, m := range edges()[6:12] {
			lists = append(lists, []int{n}, []int{n, m})
		}
	}
	for _, a := range lists {
		for _, b := range lists {
			x, y := api.Offer{Slots: a}, api.Offer{Slots: b}
			if got := course.Clash(x, y); got != modelClash(x, y) || got != course.Clash(y, x) {
				t.Errorf("Clash of %v and %v = %v", a, b, got)
			}
		}
	}
}

// TestClashLong: P1 and R5: lists that are not right can be long.
func TestClashLong(t *testing.T) {
	a, b := api.Offer{Slots: make([]int, 1<<20)}, api.Offer{Slots: make([]int, 1<<20)}
	for i := range a.Slots {
		a.Slots[i], b.Slots[i] = 2*i, -2*i-1
	}
	if course.Clash(a, b) {
		t.Error("Clash of even and odd numbers")
	}
	b.Slots[1<<20-1] = 1 << 20
	if !course.Clash(a, b) {
		t.Error("no Clash of long lists")
	}
}
