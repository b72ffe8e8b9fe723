package course_test

import (
	"fmt"
	"runtime/debug"
	"slices"
	"testing"

	"quadrivium/api"
	"quadrivium/course"
)

// TestNeeds: P7.4, with the examples of the chapter.
func TestNeeds(t *testing.T) {
	l := example()
	for code, want := range map[string][]string{"C1": {"A1", "B1", "B2"}, "A1": nil, "B1": {"A1"}, "B2": nil, "X": nil, "": nil, "c1": nil} {
		if got := course.Needs(l, code); !slices.Equal(got, want) {
			t.Errorf("Needs of %q = %v", code, got)
		}
	}
	for _, n := range []int{1, 2, 59, 60, 61, 500} {
		all := coded(n)
		if got := course.Needs(rising(n), all[n-1]); !slices.Equal(got, all[:n-1]) {
			t.Errorf("Needs of the last one of %d = %v", n, got)
		}
		if got := course.Needs(falling(n), all[0]); !slices.Equal(got, all[1:]) {
			t.Errorf("Needs of the first one of %d = %v", n, got)
		}
	}
	if got := course.Needs(nil, "A"); len(got) != 0 {
		t.Errorf("Needs in no offer = %v", got)
	}
}

// TestNeedsWrong: P7.4 in lists that are not right: the first offer counts, a circle leads back, and what has no offer is required as well.
func TestNeedsWrong(t *testing.T) {
	for i, x := range []struct {
		l    []api.Offer
		code string
		want []string
	}{
		{[]api.Offer{plain("A", "B"), plain("A", "C"), plain("B"), plain("C", "X")}, "A", []string{"B"}}, {[]api.Offer{plain("A"), plain("A", "C"), plain("C")}, "A", nil}, {[]api.Offer{plain("Z", "A"), plain("A", "B"), plain("A", "C"), plain("B", "D"), plain("B", "E")}, "Z", []string{"A", "B", "D"}},
		{[]api.Offer{plain("A", "A")}, "A", []string{"A"}}, {[]api.Offer{plain("A", "B"), plain("B", "A")}, "A", []string{"A", "B"}}, {[]api.Offer{plain("A", "B"), plain("B", "A")}, "B", []string{"A", "B"}}, {[]api.Offer{plain("A", "B"), plain("B", "C"), plain("C", "A")}, "B", []string{"A", "B", "C"}}, {[]api.Offer{plain("A", "B"), plain("B", "C"), plain("C", "B")}, "A", []string{"B", "C"}}, {[]api.Offer{plain("A", "B"), plain("B", "B")}, "A", []string{"B"}},
		{[]api.Offer{plain("A", "X")}, "A", []string{"X"}}, {[]api.Offer{plain("A", "X")}, "X", nil}, {[]api.Offer{plain("A", "X"), plain("B", "A")}, "B", []string{"A", "X"}}, {[]api.Offer{plain("A", "X", "X", "B"), plain("B", "X", "", "a")}, "A", []string{"", "B", "X", "a"}}, {[]api.Offer{plain("", "A"), plain("A", "")}, "", []string{"", "A"}}, {[]api.Offer{plain("é", "\xff", "Z", "\x00"), plain("\x00", "é")}, "é", []string{"\x00", "Z", "é", "\xff"}},
		{[]api.Offer{plain("A", "9", "8", "7", "6", "5", "4", "3")}, "A", []string{"3", "4", "5", "6", "7", "8", "9"}},
	} {
		if got := course.Needs(x.l, x.code); !slices.Equal(got, x.want) {
			t.Errorf("%d: Needs of %q = %q, want %q", i, x.code, got, x.want)
		}
	}
}

// TestNeedsAll: P7.4 and P7.9 for all small lists, and for those of the lists.
func TestNeedsAll(t *testing.T) {
	for _, l := range slices.Concat(smallLists(), rightCatalogs(), wrongLists()) {
		for _, code := range codesOf(l) {
			got := course.Needs(l, code)
			if !slices.Equal(got, modelNeeds(l, code)) {
				t.Errorf("Needs of %q in %s = %q", code, short(l), got)
			}
			for _, s := range got {
				for _, further := range course.Needs(l, s) {
					if !slices.Contains(got, further) {
						t.Errorf("Needs of %q in %s has %q, but not %q", code, short(l), s, further)
					}
				}
			}
		}
	}
}

// TestNeedsDeep: P1 and R5: a chain in a list that is not right can be longer than the stack has room for, here on a small stack.
func TestNeedsDeep(t *testing.T) {
	defer debug.SetMaxStack(debug.SetMaxStack(1 << 20))
	const n = 100000
	name := func(i int) string { return fmt.Sprintf("%06d", i) }
	var l []api.Offer
	var want []string
	for i := range n {
		l = append(l, plain(name(i), name(i+1)))
		want = append(want, name(i+1))
	}
	if got := course.Needs(l, name(0)); !slices.Equal(got, want) {
		t.Errorf("Needs of a chain of %d has %d", n, len(got))
	}
	l[n-1].Needs = []string{name(n / 2), name(0)}
	want[n-1] = name(0)
	slices.Sort(want)
	for _, at := range []int{0, 1, n / 2, n - 1} {
		if got := course.Needs(l, name(at)); !slices.Equal(got, want) {
			t.Errorf("Needs of a circle of %d has %d", n, len(got))
		}
	}
	if err := course.Check(l); err != api.ErrMany {
		t.Errorf("Check of a circle of %d = %d", n, err)
	}
}

// TestOrder: P7.5, with the example of the chapter, and with the least code at the end and at the beginning.
func TestOrder(t *testing.T) {
	backward := coded(60)
	slices.Reverse(backward)
	for i, x := range []struct {
		l    []api.Offer
		want []string
	}{
		{example(), []string{"A1", "B1", "B2", "C1"}}, {nil, nil}, {[]api.Offer{}, nil}, {[]api.Offer{plain("A")}, []string{"A"}}, {loose(60), coded(60)}, {rising(60), coded(60)}, {falling(60), backward}, {dense(60), coded(60)},
		{[]api.Offer{plain("A", "C"), plain("B"), plain("C")}, []string{"B", "C", "A"}}, {[]api.Offer{plain("A", "B"), plain("B"), plain("C")}, []string{"B", "A", "C"}}, {[]api.Offer{plain("A", "D"), plain("B", "D"), plain("C"), plain("D", "C"), plain("E")}, []string{"C", "D", "A", "B", "E"}}, {[]api.Offer{plain("A", "B", "E"), plain("B"), plain("C", "D"), plain("D"), plain("E")}, []string{"B", "D", "C", "E", "A"}}, {[]api.Offer{plain("A", "Z"), plain("B", "A"), plain("Z")}, []string{"Z", "A", "B"}}, {[]api.Offer{plain("1", "2"), plain("2", "3"), plain("3"), plain("A", "1")}, []string{"3", "2", "1", "A"}},
	} {
		if got := course.Order(x.l); !slices.Equal(got, x.want) {
			t.Errorf("%d: Order of %s = %v", i, short(x.l), got)
		}
	}
}

// TestOrderAll: P7.5 for all small lists, and for those of the lists: nothing, if they are not right.
func TestOrderAll(t *testing.T) {
	for _, l := range slices.Concat(smallLists(), rightCatalogs(), wrongLists()) {
		if got := course.Order(l); !slices.Equal(got, modelOrder(l)) {
			t.Errorf("Order of %s = %v", short(l), got)
		}
	}
	for _, l := range wrongLists() {
		if got := course.Order(l); len(got) != 0 {
			t.Errorf("Order of %s = %v", short(l), got)
		}
	}
}

// TestRight: P7.8.
func TestRight(t *testing.T) {
	for _, l := range slices.Concat(smallLists(), rightCatalogs()) {
		if course.Check(l) != api.OK {
			continue
		}
		order := course.Order(l)
		if len(order) != len(l) {
			t.Errorf("Order of %s = %v", short(l), order)
		}
		for _, o := range l {
			needs, at := course.Needs(l, o.Code), slices.Index(order, o.Code)
			if at < 0 || slices.Contains(needs, o.Code) || !course.Met(l, o.Code, order[:at]) || len(o.Needs) > 0 && course.Met(l, o.Code, nil) {
				t.Errorf("%s of %s comes at %d of %v", o.Code, short(l), at, order)
			}
			for _, s := range needs {
				if k := slices.Index(order, s); k < 0 || k >= at {
					t.Errorf("%s of %s, which requires %s, comes at %d of %v", o.Code, short(l), s, at, order)
				}
			}
		}
	}
}

// TestMet: P7.6, with the examples of the chapter.
func TestMet(t *testing.T) {
	l := example()
	for i, x := range []struct {
		code string
		has  []string
		want bool
	}{
		{"B1", []string{"A1"}, true}, {"C1", []string{"A1", "B1"}, false}, {"X", []string{"X"}, false}, {"X", nil, false}, {"", nil, false}, {"A1", nil, true}, {"A1", []string{"X", "C1"}, true}, {"B1", nil, false}, {"B1", []string{"B1"}, false}, {"B1", []string{"A"}, false}, {"B1", []string{"a1", "", "A10"}, false}, {"B1", []string{"X", "A1", "A1"}, true},
		{"C1", []string{"B1", "B2"}, true}, {"C1", []string{"B2", "B1"}, true}, {"C1", []string{"B2"}, false}, {"C1", []string{"B1"}, false}, {"C1", []string{"B1", "B1"}, false}, {"C1", []string{"X", "B2", "A1", "B1", "\xff"}, true}, {"C1", []string{}, false}, {"B2", []string{}, true},
	} {
		if got := course.Met(l, x.code, x.has); got != x.want {
			t.Errorf("%d: Met of %s with %q = %v", i, x.code, x.has, got)
		}
	}
	if course.Met(nil, "", nil) || course.Met(nil, "A", []string{"A"}) {
		t.Error("Met in no offer")
	}
}

// TestMetWrong: P7.6 in lists that are not right: the first offer counts, with whatever it requires.
func TestMetWrong(t *testing.T) {
	l := []api.Offer{plain("B", "X"), plain("A", "A", "A"), plain("B"), plain("", "", "a\xff"), plain("C"), plain("C", "Y")}
	for i, x := range []struct {
		code string
		has  []string
		want bool
	}{
		{"B", nil, false}, {"B", []string{"X"}, true}, {"A", []string{"A"}, true}, {"A", []string{"B"}, false}, {"", []string{""}, false}, {"", []string{"a\xff"}, false}, {"", []string{"a\xff", ""}, true}, {"C", nil, true}, {"X", []string{"X"}, false}, {"Y", nil, false},
	} {
		if got := course.Met(l, x.code, x.has); got != x.want {
			t.Errorf("%d: Met of %q with %q = %v", i, x.code, x.has, got)
		}
	}
}

// TestMetAll: P7.6 for those of the lists, with parts of their strings.
func TestMetAll(t *testing.T) {
	for _, l := range slices.Concat(rightCatalogs(), wrongLists()) {
		codes := codesOf(l)
		for _, code := range codes {
			for at := range codes {
				for _, has := range [][]string{codes[:at], codes[at:], course.Needs(l, codes[at])} {
					if got := course.Met(l, code, has); got != modelMet(l, code, has) {
						t.Errorf("Met of %q in %s with %q = %v", code, short(l), has, got)
					}
				}
			}
		}
	}
}

// TestMetLong: P1 and R5: lists that are not right can be long.
func TestMetLong(t *testing.T) {
	var all, others []string
	for i := range 1 << 18 {
		all, others = append(all, fmt.Sprint(i)), append(others, fmt.Sprint(-i-1))
	}
	l := []api.Offer{plain("A", all...)}
	slices.Reverse(all)
	if course.Met(l, "A", slices.Concat(others, all[1:])) || !course.Met(l, "A", slices.Concat(others, all)) {
		t.Error("Met with long lists")
	}
	if got := course.Needs(l, "A"); len(got) != len(all) || !slices.IsSorted(got) {
		t.Errorf("Needs has %d of %d", len(got), len(all))
	}
}
