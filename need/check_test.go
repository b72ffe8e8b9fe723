package need_test

import (
	"math"
	"slices"
	"strings"
	"testing"

	"quadrivium/api"
	"quadrivium/need"
)

// checkCheck compares Check with the model.
func checkCheck(t *testing.T, n api.Need) {
	t.Helper()
	if got, want := need.Check(n), modelCheck(n); got != want {
		t.Errorf("Check of %s = %d, want %d", short(n), got, want)
	}
}

// TestCheck: P8.1, with the examples of the chapter.
func TestCheck(t *testing.T) {
	a := one(50, "A")
	for i, x := range []struct {
		n    api.Need
		want api.Errno
	}{
		{a, api.OK}, {every(a, credits(6, 0, "A B")), api.OK}, {some(3, a, one(50, "B")), api.ErrRange}, {some(1), api.ErrMany}, {one(50, "B A"), api.ErrOrder}, {api.Need{Kind: api.NeedCourse, N: 1, Min: 50, Set: set("A")}, api.ErrNeed}, {one(50, ""), api.ErrMany},
		{credits(6, 0, "A B"), api.OK}, {some(2, a, a), api.OK}, {every(every(some(1, every(a))), a), api.OK}, {every(), api.ErrMany}, {api.Need{}, api.ErrNeed},
	} {
		if got := need.Check(x.n); got != x.want {
			t.Errorf("%d: Check of %s = %d, want %d", i, short(x.n), got, x.want)
		}
	}
}

// TestCheckKinds: P8.1: the Kinds that there are, and for each of them the fields that it must not have.
func TestCheckKinds(t *testing.T) {
	sub := []api.Need{one(0, "A")}
	for i, x := range []struct {
		n    api.Need
		want api.Errno
	}{
		{api.Need{Kind: 0, Set: set("A")}, api.ErrNeed}, {api.Need{Kind: 5, Set: set("A")}, api.ErrNeed}, {api.Need{Kind: 5, N: 1, L: sub}, api.ErrNeed}, {api.Need{Kind: -1, Set: set("A")}, api.ErrNeed}, {api.Need{Kind: math.MinInt, Set: set("A")}, api.ErrNeed}, {api.Need{Kind: math.MaxInt, Set: set("A")}, api.ErrNeed}, {api.Need{Kind: 1<<32 + 1, Set: set("A")}, api.ErrNeed},
		{api.Need{Kind: 1, Set: set("A")}, api.OK}, {api.Need{Kind: 1, N: 1, Set: set("A")}, api.ErrNeed}, {api.Need{Kind: 1, N: -1, Set: set("A")}, api.ErrNeed}, {api.Need{Kind: 1, N: math.MinInt, Set: set("A")}, api.ErrNeed}, {api.Need{Kind: 1, Set: set("A"), L: sub}, api.ErrNeed}, {api.Need{Kind: 1, N: 1, Set: set("A"), L: sub}, api.ErrNeed}, {api.Need{Kind: 1, Set: []api.Course{in("A")}, L: []api.Need{}}, api.OK}, {api.Need{Kind: 1, L: sub}, api.ErrNeed},
		{api.Need{Kind: 2, N: 0, Set: set("A")}, api.ErrRange}, {api.Need{Kind: 2, N: 1, Set: set("A")}, api.OK}, {api.Need{Kind: 2, N: 600, Set: set("A")}, api.OK}, {api.Need{Kind: 2, N: 601, Set: set("A")}, api.ErrRange}, {api.Need{Kind: 2, N: math.MinInt, Set: set("A")}, api.ErrRange}, {api.Need{Kind: 2, N: math.MaxInt, Set: set("A")}, api.ErrRange}, {api.Need{Kind: 2, N: 1, Set: set("A"), L: sub}, api.ErrNeed}, {api.Need{Kind: 2, N: 0, Set: set("A"), L: sub}, api.ErrNeed},
		{api.Need{Kind: 3, L: sub}, api.OK}, {api.Need{Kind: 3, N: 1, L: sub}, api.ErrNeed}, {api.Need{Kind: 3, N: -1, L: sub}, api.ErrNeed}, {api.Need{Kind: 3, Min: 1, L: sub}, api.ErrNeed}, {api.Need{Kind: 3, Min: math.MinInt, L: sub}, api.ErrNeed}, {api.Need{Kind: 3, Set: set("A"), L: sub}, api.ErrNeed}, {api.Need{Kind: 3, Set: []api.Course{}, L: sub}, api.OK}, {api.Need{Kind: 3, Set: make([]api.Course, 100), L: sub}, api.ErrNeed},
		{api.Need{Kind: 4, N: 1, L: sub}, api.OK}, {api.Need{Kind: 4, N: 0, L: sub}, api.ErrRange}, {api.Need{Kind: 4, N: 2, L: sub}, api.ErrRange}, {api.Need{Kind: 4, N: -1, L: sub}, api.ErrRange}, {api.Need{Kind: 4, N: math.MinInt, L: sub}, api.ErrRange}, {api.Need{Kind: 4, N: math.MaxInt, L: sub}, api.ErrRange}, {api.Need{Kind: 4, N: 1, Min: 1, L: sub}, api.ErrNeed}, {api.Need{Kind: 4, N: 1, Min: -1, L: sub}, api.ErrNeed}, {api.Need{Kind: 4, N: 1, Set: set("A"), L: sub}, api.ErrNeed}, {api.Need{Kind: 4, N: 0, Set: set("A"), L: sub}, api.ErrNeed}, {api.Need{Kind: 4, N: 2, Min: 1, L: sub}, api.ErrNeed},
	} {
		for _, n := range []api.Need{x.n, every(x.n), every(one(0, "A"), x.n, one(0, "B"))} {
			if got := need.Check(n); got != x.want {
				t.Errorf("%d: Check of %s = %d, want %d", i, short(n), got, x.want)
			}
		}
	}
	// A node with an empty list is no leaf, and so there is one beside it.
	for _, n := range []api.Need{every(every(), one(0, "A")), every(one(0, "A"), some(1)), some(1, one(0, "A"), some(0))} {
		if got := need.Check(n); got != api.ErrNeed {
			t.Errorf("Check of %s = %d", short(n), got)
		}
	}
}

// TestCheckLeaf: P8.1: Min and Set of leaves of both Kinds.
func TestCheckLeaf(t *testing.T) {
	at := func(school int, code string) api.Course { return api.Course{School: school, Code: code} }
	for i, x := range []struct {
		min  int
		set  []api.Course
		want api.Errno
	}{
		{-1001, set("A"), api.ErrRange}, {-1000, set("A"), api.OK}, {1000, set("A"), api.OK}, {1001, set("A"), api.ErrRange}, {math.MinInt, set("A"), api.ErrRange}, {math.MaxInt, set("A"), api.ErrRange}, {1 << 32, set("A"), api.ErrRange},
		{0, nil, api.ErrMany}, {0, []api.Course{}, api.ErrMany}, {0, coded(1), api.OK}, {0, coded(12), api.OK}, {0, coded(13), api.ErrMany}, {0, make([]api.Course, 13), api.ErrMany}, {0, make([]api.Course, 12), api.ErrArg}, {0, coded(100000), api.ErrMany},
		{0, []api.Course{at(0, "A")}, api.ErrArg}, {0, []api.Course{at(1, "A")}, api.OK}, {0, []api.Course{at(8, "A")}, api.OK}, {0, []api.Course{at(9, "A")}, api.ErrArg}, {0, []api.Course{at(-1, "A")}, api.ErrArg}, {0, []api.Course{at(math.MinInt, "A")}, api.ErrArg}, {0, []api.Course{at(math.MaxInt, "A")}, api.ErrArg}, {0, []api.Course{at(1<<32+1, "A")}, api.ErrArg},
		{0, []api.Course{at(1, "")}, api.ErrArg}, {0, []api.Course{at(1, "a")}, api.ErrArg}, {0, []api.Course{at(1, "A-")}, api.ErrArg}, {0, []api.Course{at(1, "ABCDEFGH")}, api.OK}, {0, []api.Course{at(1, "ABCDEFGHI")}, api.ErrArg}, {0, []api.Course{at(1, "\xff")}, api.ErrArg}, {0, []api.Course{at(1, strings.Repeat("A", 1<<20))}, api.ErrArg},
		{0, set("A A"), api.ErrOrder}, {0, set("B A"), api.ErrOrder}, {0, set("A A0"), api.OK}, {0, set("A0 A"), api.ErrOrder}, {0, set("9 A"), api.OK}, {0, set("A 9"), api.ErrOrder}, {0, set("AZ B"), api.OK}, {0, set("A C B"), api.ErrOrder}, {0, set("A C C"), api.ErrOrder}, {0, set("B C A"), api.ErrOrder}, {0, set("A B A"), api.ErrOrder},
		{0, []api.Course{at(2, "A"), at(1, "A")}, api.ErrOrder}, {0, []api.Course{at(2, "A"), at(1, "B")}, api.ErrOrder}, {0, []api.Course{at(1, "B"), at(2, "A")}, api.OK}, {0, []api.Course{at(1, "A"), at(8, "A")}, api.OK}, {0, []api.Course{at(2, "A"), at(2, "A")}, api.ErrOrder}, {0, []api.Course{at(1, "B"), at(2, "B"), at(2, "A")}, api.ErrOrder},
		{0, []api.Course{at(1, "B"), at(1, "A"), at(1, "c")}, api.ErrArg}, {0, []api.Course{at(1, "A"), at(1, "A"), at(9, "A")}, api.ErrArg}, {0, []api.Course{at(1, "A"), at(0, "A"), at(1, "A")}, api.ErrArg}, {1001, nil, api.ErrRange}, {1001, set("b a"), api.ErrRange}, {0, append(coded(12), at(9, "a")), api.ErrMany},
	} {
		for _, leaf := range []api.Need{{Kind: api.NeedCourse, Min: x.min, Set: x.set}, {Kind: api.NeedCredits, N: 7, Min: x.min, Set: x.set}} {
			for _, n := range []api.Need{leaf, every(leaf), some(1, one(0, "A"), every(leaf, one(0, "B")))} {
				if got := need.Check(n); got != x.want {
					t.Errorf("%d: Check of %s = %d, want %d", i, short(n), got, x.want)
				}
			}
		}
	}
}

// TestCheckMany: P8.1: how many nodes and leaves there are, and how deep they lie.
func TestCheckMany(t *testing.T) {
	last := func(n int) api.Need { return full().L[n] }
	for i, x := range []struct {
		n    api.Need
		want api.Errno
	}{
		{full(), api.OK}, {every(full().L...), api.OK}, {every(every(last(0).L...), every(last(1)), last(2), last(3), last(4)), api.ErrMany},
		{chain(5, one(0, "A")), api.OK}, {chain(6, one(0, "A")), api.ErrMany}, {every(one(0, "A"), chain(4, one(0, "B")), one(0, "C")), api.OK}, {every(one(0, "A"), chain(5, one(0, "B")), one(0, "C")), api.ErrMany}, {chain(5, every()), api.ErrMany}, {every(one(0, "A"), chain(4, every())), api.ErrNeed}, {every(one(0, "A"), chain(5, every())), api.ErrMany},
		{every(leaves(8)...), api.OK}, {every(leaves(9)...), api.ErrMany}, {every(append([]api.Need{one(0, "A")}, every(leaves(7)...))...), api.OK}, {every(append([]api.Need{one(0, "A")}, every(leaves(8)...))...), api.ErrMany}, {every(loose(one(0, "A"), leaves(8)...)), api.ErrMany}, {every(loose(one(0, "A"), leaves(7)...)), api.ErrNeed}, {loose(api.Need{}, leaves(8)...), api.ErrMany}, {loose(api.Need{}, leaves(7)...), api.ErrNeed},
		{every(), api.ErrMany}, {some(0), api.ErrMany}, {every(every(), every(some(1))), api.ErrMany}, {every(every(), one(0, "A")), api.ErrNeed}, {wide(10001), api.ErrMany}, {wide(100000), api.ErrMany}, {chain(100000, one(0, "A")), api.ErrMany},
	} {
		if got := need.Check(x.n); got != x.want {
			t.Errorf("%d: Check of %s = %d, want %d", i, short(x.n), got, x.want)
		}
	}
	// Nodes without leaves among them, so that their number alone decides.
	for n := 1; n < 60; n++ {
		want := api.ErrNeed
		if n+2 > 24 {
			want = api.ErrMany
		}
		empty := every(append(slices.Repeat([]api.Need{every()}, n), one(0, "A"))...)
		if got := need.Check(empty); got != want {
			t.Errorf("Check of %d nodes = %d", n+2, got)
		}
	}
	for depth := 1; depth < 40; depth++ {
		want := api.OK
		if depth > 5 {
			want = api.ErrMany
		}
		if got := need.Check(chain(depth, one(0, "A"))); got != want {
			t.Errorf("Check of the depth %d = %d", depth, got)
		}
	}
}

// TestCheckNodes: P8.1: 24 nodes are right, and one more is too many, wherever it is.
func TestCheckNodes(t *testing.T) {
	n := must(t, full())
	if size := need.Size(n); size != 24 {
		t.Fatalf("%d nodes", size)
	}
	for i := range n.L {
		more := copied(n)
		more.L[i] = every(more.L[i])
		if got := need.Check(more); got != api.ErrMany {
			t.Errorf("Check of 25 nodes = %d", got)
		}
	}
}

// TestCheckFirst: P8.1: of several faults the first one in the order of the chapter counts.
func TestCheckFirst(t *testing.T) {
	kind, field, number, low, no, arg, order := api.Need{Kind: 7, N: 9, Min: 2000}, api.Need{Kind: 1, N: 1, Min: 2000}, credits(0, 2000, ""), one(2000, ""), one(0, ""), one(0, "B a A"), one(0, "B A")
	for i, x := range []struct {
		n    api.Need
		want api.Errno
	}{
		{kind, api.ErrNeed}, {field, api.ErrNeed}, {number, api.ErrRange}, {low, api.ErrRange}, {no, api.ErrMany}, {arg, api.ErrArg}, {order, api.ErrOrder},
		{every(order, kind), api.ErrOrder}, {every(arg, order), api.ErrArg}, {every(order, arg), api.ErrOrder}, {every(no, arg), api.ErrMany}, {every(arg, no), api.ErrArg}, {every(low, no), api.ErrRange}, {every(no, low), api.ErrMany}, {every(field, low), api.ErrNeed}, {every(low, field), api.ErrRange}, {every(one(0, "A"), order, no), api.ErrOrder}, {every(every(order), no), api.ErrOrder}, {every(every(one(0, "A"), order), no), api.ErrOrder}, {every(every(one(0, "A")), no, order), api.ErrMany},
		{some(3, order, order), api.ErrRange}, {some(0, no), api.ErrRange}, {some(1, no), api.ErrMany}, {api.Need{Kind: 3, N: 1, L: []api.Need{order}}, api.ErrNeed}, {api.Need{Kind: 4, N: 3, Min: 1, L: []api.Need{order}}, api.ErrNeed}, {loose(one(2000, ""), order), api.ErrNeed}, {loose(credits(0, 2000, ""), order), api.ErrNeed}, {every(some(2, order), no), api.ErrRange}, {every(some(1, order), some(3, no)), api.ErrOrder}, {every(every(every(), order), no), api.ErrNeed}, {every(order, every()), api.ErrOrder}, {every(every(), order), api.ErrNeed},
		{every(slices.Repeat([]api.Need{kind}, 9)...), api.ErrMany}, {every(slices.Repeat([]api.Need{kind}, 8)...), api.ErrNeed}, {chain(6, kind), api.ErrMany}, {chain(5, kind), api.ErrNeed}, {every(kind, chain(5, order)), api.ErrMany}, {every(append(slices.Repeat([]api.Need{every()}, 23), order)...), api.ErrMany}, {api.Need{Kind: 3, N: 5, Min: 5, Set: set("a")}, api.ErrMany},
	} {
		if got := need.Check(x.n); got != x.want {
			t.Errorf("%d: Check of %s = %d, want %d", i, short(x.n), got, x.want)
		}
	}
}

// TestCheckFaults: P8.1: one fault of a node in place of each node of a right requirement, and two of them.
func TestCheckFaults(t *testing.T) {
	faults := []api.Need{{}, {Kind: 5}, {Kind: 1, N: 1, Set: set("A")}, credits(601, 0, "A"), one(1001, "A"), one(0, ""), one(0, "a"), one(0, "B A"), every(), some(1), some(2, one(0, "A")), {Kind: 3, Min: 1, L: leaves(1)}}
	for _, n := range rightNeeds() {
		for i := range need.Size(n) {
			for _, f := range faults {
				bad := put(n, i, f)
				checkCheck(t, bad)
				if need.Check(bad) == api.OK {
					t.Errorf("Check of %s = 0", short(bad))
				}
			}
		}
	}
	n := every(one(0, "A"), some(1, credits(1, 0, "B"), every(one(0, "C"))), one(0, "D"))
	for i := range need.Size(n) {
		for k := range i {
			for _, f := range faults {
				for _, g := range faults {
					if two := put(n, i, f); k < need.Size(two) {
						checkCheck(t, put(two, k, g))
					}
				}
			}
		}
	}
}

// put returns n with the node other in place of its node i.
func put(n api.Need, i int, other api.Need) api.Need {
	n = copied(n)
	*nodeOf(&n, &i) = copied(other)
	return n
}

// nodeOf counts i down to the node that it means.
func nodeOf(n *api.Need, i *int) *api.Need {
	if *i == 0 {
		return n
	}
	for k := range n.L {
		*i--
		if found := nodeOf(&n.L[k], i); found != nil {
			return found
		}
	}
	return nil
}

// TestCheckAllNeeds: P8.1 for all small requirements, for those of the lists, and for all edges of the numbers.
func TestCheckAllNeeds(t *testing.T) {
	for _, n := range slices.Concat(smallNeeds(), rightNeeds(), wrongNeeds()) {
		checkCheck(t, n)
	}
	for _, n := range rightNeeds() {
		must(t, n)
	}
	for _, n := range wrongNeeds() {
		if need.Check(n) == api.OK {
			t.Errorf("Check of %s = 0", short(n))
		}
	}
	for _, a := range edges() {
		for _, b := range edges() {
			for kind := range 7 {
				checkCheck(t, api.Need{Kind: kind, N: a, Min: b, Set: set("A")})
				checkCheck(t, api.Need{Kind: kind, N: a, Min: b, L: leaves(2)})
				checkCheck(t, every(one(0, "A"), api.Need{Kind: kind, N: a, Set: []api.Course{{School: b, Code: "A"}}}))
			}
			checkCheck(t, api.Need{Kind: a, N: b, Set: set("A")})
			checkCheck(t, api.Need{Kind: a, Min: b, L: leaves(1)})
			checkCheck(t, api.Need{Kind: 1, Set: []api.Course{{School: a, Code: "A"}, {School: b, Code: "B"}}})
		}
	}
	for n := range 20 {
		for _, kind := range []int{1, 2} {
			checkCheck(t, api.Need{Kind: kind, N: kind - 1, Set: coded(n)})
		}
		for m := range 20 {
			checkCheck(t, some(n, leaves(m)...))
		}
	}
}

// TestCheckParts: P8.5 and P8.7: each node of a right requirement is right, and there are not too many of them.
func TestCheckParts(t *testing.T) {
	for _, n := range slices.Concat(smallNeeds(), rightNeeds(), wrongNeeds()) {
		if need.Check(n) != api.OK {
			continue
		}
		for _, x := range modelNodes(n) {
			must(t, x.need)
		}
		if size, leaves, courses := need.Size(n), len(need.Leaves(n)), len(need.Courses(n)); size < 1 || size > 24 || leaves < 1 || leaves > 8 || courses < 1 || courses > 96 {
			t.Errorf("%s has %d nodes, %d leaves and %d courses", short(n), size, leaves, courses)
		}
	}
	if n := must(t, full()); need.Size(n) != 24 || len(need.Leaves(n)) != 8 || len(need.Courses(n)) != 96 {
		t.Error("the most that there can be")
	}
}
