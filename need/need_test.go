package need_test

import (
	"math"
	"runtime/debug"
	"slices"
	"testing"

	"quadrivium/api"
	"quadrivium/need"
)

// TestSize: P8.3, with the examples of the chapter, for requirements that are right, and that are not.
func TestSize(t *testing.T) {
	a := one(50, "A")
	for i, x := range []struct {
		n    api.Need
		want int
	}{
		{a, 1}, {every(a, credits(6, 0, "A B")), 3}, {some(1), 1}, {api.Need{}, 1}, {chain(5, a), 5}, {every(every(), every(a), some(1)), 5}, {loose(a, a, loose(a, a), api.Need{Kind: 9, L: leaves(3)}), 8}, {full(), 24}, {wide(9), 9},
	} {
		if got := need.Size(x.n); got != x.want {
			t.Errorf("%d: Size of %s = %d, want %d", i, short(x.n), got, x.want)
		}
	}
}

// TestLeaves: P8.3: the leaves in order, also those between which others stand, and those that have a list.
func TestLeaves(t *testing.T) {
	a, b, c, d := one(1, "A"), credits(2, 0, "B"), one(3, "C"), credits(4, 0, "D")
	odd := api.Need{Kind: 7, N: 3, Set: set("Z A")}
	for i, x := range []struct {
		n    api.Need
		want []api.Need
	}{
		{a, []api.Need{a}}, {b, []api.Need{b}}, {every(a, b), []api.Need{a, b}}, {every(b, a), []api.Need{b, a}}, {some(1, a, a), []api.Need{a, a}}, {every(), nil}, {some(1, every(), some(0)), nil}, {api.Need{}, []api.Need{{}}}, {odd, []api.Need{odd}},
		{every(a, some(1, b, c), d), []api.Need{a, b, c, d}}, {every(every(every(d)), a, every(some(1, c), b)), []api.Need{d, a, c, b}}, {every(a, every(), d), []api.Need{a, d}},
		{loose(a, b, c), []api.Need{loose(a, b, c), b, c}}, {every(loose(a, every(b, loose(odd, c))), d), []api.Need{loose(a, every(b, loose(odd, c))), b, loose(odd, c), c, d}}, {loose(every(a), b), []api.Need{b}},
	} {
		if got := need.Leaves(x.n); !sameLists(got, x.want) {
			t.Errorf("%d: Leaves of %s = %v, want %v", i, short(x.n), got, x.want)
		}
	}
}

// TestCourses: P8.3, with the examples of the chapter, for sets that share courses, that fall, and that inner nodes have.
func TestCourses(t *testing.T) {
	inner := every(one(1, "C"), one(1, "A"))
	inner.Set = set("D B")
	other := api.Course{School: 2, Code: "A"}
	for i, x := range []struct {
		n    api.Need
		want []api.Course
	}{
		{one(50, "A"), set("A")}, {every(one(50, "A"), credits(6, 0, "A B")), set("A B")}, {every(one(0, "C D"), one(0, "A B")), set("A B C D")}, {every(one(0, "A C"), one(0, "B D"), credits(1, 0, "A B C D")), set("A B C D")}, {every(credits(1, 0, "B"), every(one(0, "A B"), one(0, "B"))), set("A B")},
		{one(0, "B A B A"), set("A B")}, {inner, set("A B C D")}, {loose(one(0, "B"), one(0, "A")), set("A B")}, {api.Need{Kind: 9, Set: set("A")}, set("A")}, {api.Need{}, nil}, {every(), nil}, {api.Need{Kind: 3, Set: set("Q")}, set("Q")}, {every(every(), one(0, "")), nil},
		{one(0, "a A A0 9"), set("9 A A0 a")}, {api.Need{Kind: 1, Set: []api.Course{other, in("B"), in("A"), other}}, []api.Course{in("A"), in("B"), other}}, {api.Need{Set: []api.Course{{School: math.MaxInt, Code: ""}, {School: 0, Code: "\xff"}, {School: 0, Code: "\x7f"}, {School: math.MinInt, Code: "Z"}, {}}}, []api.Course{{School: math.MinInt, Code: "Z"}, {}, {School: 0, Code: "\x7f"}, {School: 0, Code: "\xff"}, {School: math.MaxInt, Code: ""}}},
	} {
		if got := need.Courses(x.n); !slices.Equal(got, x.want) {
			t.Errorf("%d: Courses of %s = %v, want %v", i, short(x.n), got, x.want)
		}
	}
}

// checkLists compares Size, Leaves and Courses with the model.
func checkLists(t *testing.T, n api.Need) {
	t.Helper()
	if got, want := need.Size(n), modelSize(n); got != want {
		t.Errorf("Size of %s = %d, want %d", short(n), got, want)
	}
	if got, want := need.Leaves(n), modelLeaves(n); !sameLists(got, want) {
		t.Errorf("Leaves of %s = %d leaves, want %d", short(n), len(got), len(want))
	}
	if got, want := need.Courses(n), modelCourses(n); !slices.Equal(got, want) {
		t.Errorf("Courses of %s = %d courses, want %d", short(n), len(got), len(want))
	}
}

// TestLists: P8.3 for all small requirements, and for those of the lists.
func TestLists(t *testing.T) {
	for _, n := range slices.Concat(smallNeeds(), rightNeeds(), wrongNeeds()) {
		checkLists(t, n)
	}
}

// TestLarge: P8.3: 10000 nodes, and the depth 100, are looked at, and one more is not.
func TestLarge(t *testing.T) {
	for _, x := range []struct {
		n     api.Need
		large bool
	}{
		{wide(9999), false}, {wide(10000), false}, {wide(10001), true}, {wide(10002), true}, {wide(100000), true}, {packed(10000, 100), false}, {packed(10001, 100), true}, {packed(10000, 101), true}, {packed(1000, 101), true},
		{chain(99, one(0, "A")), false}, {chain(100, one(0, "A")), false}, {chain(101, one(0, "A")), true}, {chain(102, one(0, "A")), true}, {chain(99, every(leaves(3)...)), false}, {chain(100, every(leaves(3)...)), true}, {every(chain(99, one(0, "A")), one(0, "B")), false}, {every(one(0, "B"), chain(99, one(0, "A"))), false}, {every(chain(100, one(0, "A")), one(0, "B")), true}, {every(one(0, "B"), chain(100, one(0, "A"))), true},
		{every(wide(5000), wide(4999)), false}, {every(wide(5000), wide(5000)), true}, {chain(100, api.Need{}), false}, {chain(101, api.Need{}), true}, {chain(101, every()), true}, {chain(100, every()), false},
	} {
		size, leaves, courses := need.Size(x.n), need.Leaves(x.n), need.Courses(x.n)
		if x.large && (size != 0 || len(leaves) != 0 || len(courses) != 0) {
			t.Errorf("%s: %d nodes, %d leaves and %d courses", short(x.n), size, len(leaves), len(courses))
		}
		if !x.large && (size != len(modelNodes(x.n)) || !sameLists(leaves, modelLeaves(x.n))) {
			t.Errorf("%s: %d nodes, %d leaves", short(x.n), size, len(leaves))
		}
		if same := need.Same(x.n, copied(x.n)); same == x.large || need.Same(x.n, one(0, "A")) || need.Same(one(0, "A"), x.n) {
			t.Errorf("Same of %s and its copy = %v", short(x.n), same)
		}
	}
	if got := need.Courses(wide(10000)); !slices.IsSortedFunc(got, order) || len(got) != 9999 {
		t.Errorf("Courses of 10000 nodes = %d courses", len(got))
	}
}

func order(a, b api.Course) int {
	if modelPrecedes(a, b) {
		return -1
	}
	return 1
}

// TestLeafOfLeaf: P8.5: a leaf has itself as its only leaf.
func TestLeafOfLeaf(t *testing.T) {
	for _, n := range slices.Concat(smallNeeds(), rightNeeds(), wrongNeeds()) {
		for _, leaf := range need.Leaves(n) {
			if len(leaf.L) == 0 && !sameLists(need.Leaves(leaf), []api.Need{leaf}) {
				t.Errorf("Leaves of the leaf %s = %v", short(leaf), need.Leaves(leaf))
			}
		}
	}
}

// TestCoursesStrict: P8.6: the order is strict, and a course is there exactly if a leaf of a right requirement has it.
func TestCoursesStrict(t *testing.T) {
	for _, n := range slices.Concat(smallNeeds(), rightNeeds(), wrongNeeds()) {
		l := need.Courses(n)
		for i := 1; i < len(l); i++ {
			if !modelPrecedes(l[i-1], l[i]) {
				t.Errorf("Courses of %s = %v", short(n), l)
			}
		}
		if need.Check(n) != api.OK {
			continue
		}
		has := map[api.Course]bool{}
		for _, leaf := range need.Leaves(n) {
			for _, c := range leaf.Set {
				has[c] = true
			}
		}
		for _, c := range l {
			if !has[c] {
				t.Errorf("no leaf of %s has %v", short(n), c)
			}
			delete(has, c)
		}
		if len(has) > 0 {
			t.Errorf("Courses of %s lack %v", short(n), has)
		}
	}
}

// TestSame: P8.4: each requirement is the same as itself and as its copy, and as no other one.
func TestSame(t *testing.T) {
	all := slices.Concat(rightNeeds(), wrongNeeds())
	for i, a := range all {
		for k, b := range all {
			// Each of them is there once.
			if got := need.Same(a, copied(b)); got != (i == k) {
				t.Errorf("Same of %s and %s = %v", short(a), short(b), got)
			}
		}
	}
	if !need.Same(api.Need{}, api.Need{Set: []api.Course{}, L: []api.Need{}}) || !need.Same(every(api.Need{L: []api.Need{}}), every(api.Need{})) {
		t.Error("nil and empty")
	}
	small := smallNeeds()
	for i, n := range small {
		if other := small[i*7%len(small)]; !need.Same(n, copied(n)) || need.Same(n, other) != modelSame(n, other) {
			t.Errorf("Same of %s and %s", short(n), short(other))
		}
	}
}

// fields changes a node in one field each, in each way another one.
func fields() []func(n *api.Need) {
	return []func(n *api.Need){
		func(n *api.Need) { n.Kind++ }, func(n *api.Need) { n.Kind = math.MinInt }, func(n *api.Need) { n.N++ }, func(n *api.Need) { n.N -= 1 << 32 }, func(n *api.Need) { n.Min++ }, func(n *api.Need) { n.Min = math.MaxInt },
		func(n *api.Need) { n.Set = append(n.Set, in("Q")) }, func(n *api.Need) { n.Set = append([]api.Course{in("Q")}, n.Set...) }, func(n *api.Need) { n.L = append(n.L, api.Need{}) }, func(n *api.Need) { n.L = append([]api.Need{{}}, n.L...) },
	}
}

// contents changes what is in the lists of a node, if there is something in them.
func contents(n *api.Need) []func() {
	if len(n.Set) == 0 {
		return nil
	}
	last := &n.Set[len(n.Set)-1]
	return []func(){func() { last.School++ }, func() { last.Code += "Q" }, func() { n.Set[0].School = 8 }, func() { n.Set[0].Code = "q" + n.Set[0].Code }, func() { n.Set = n.Set[1:] }, func() { n.Set = n.Set[:len(n.Set)-1] }}
}

// TestSameFields: P8.4: requirements that differ in one field of one node, for each field and each node.
func TestSameFields(t *testing.T) {
	differ := func(a, b api.Need) {
		t.Helper()
		if need.Same(a, b) || need.Same(b, a) || !need.Same(b, copied(b)) {
			t.Errorf("Same of %s and %s", short(a), short(b))
		}
	}
	for _, n := range slices.Concat(rightNeeds(), wrongNeeds()[:30]) {
		for i := range modelNodes(n) {
			for _, change := range fields() {
				other, at := copied(n), i
				change(nodeOf(&other, &at))
				differ(n, other)
			}
			for k := range contents(nodeOf(new(copied(n)), new(i))) {
				other, at := copied(n), i
				contents(nodeOf(&other, &at))[k]()
				differ(n, other)
			}
			other, at := copied(n), i
			if x := nodeOf(&other, &at); len(x.L) > 0 {
				x.L = x.L[:len(x.L)-1]
				differ(n, other)
			}
		}
	}
	a, b := one(1, "A"), one(2, "B")
	for _, x := range [][2]api.Need{{every(a, b), every(b, a)}, {every(every(a), b), every(every(a, b))}, {every(a, every(b)), every(every(a), b)}, {one(0, "A B"), one(0, "B A")}, {loose(a, b), every(a, b)}} {
		differ(x[0], x[1])
	}
}

// endless are requirements without an end: their lists lie in themselves, or share so much memory that they have more nodes than can be counted; and ones that are far deeper than the stack.
func endless() []api.Need {
	self := every(make([]api.Need, 1)...)
	self.L[0] = self
	leaf := loose(one(0, "A"), make([]api.Need, 3)...)
	leaf.L[0], leaf.L[1], leaf.L[2] = one(0, "B"), leaf, leaf
	late := make([]api.Need, 20000)
	for i := range late {
		late[i] = one(0, "A")
	}
	late[19999] = every(late...)
	double := one(0, "A")
	for range 90 {
		double = some(2, double, double)
	}
	empty := every()
	for range 60 {
		empty = every(empty, empty, empty)
	}
	return []api.Need{self, every(one(0, "A"), self), leaf, every(late...), double, every(one(0, "A"), double), empty, chain(1000000, one(0, "A")), every(one(0, "A"), chain(300000, one(0, "A")))}
}

// TestEndless: P1 and R5: each call returns, with little memory and stack, what it returns for requirements that are too large.
func TestEndless(t *testing.T) {
	defer debug.SetMaxStack(debug.SetMaxStack(1 << 20))
	for i, n := range endless() {
		p := changed(func(p *api.Programme) { p.Need = n })
		if need.Check(n) != api.ErrMany || need.CheckAll(p) != api.ErrMany {
			t.Errorf("%d: Check = %d", i, need.Check(n))
		}
		if need.Size(n) != 0 || len(need.Leaves(n)) != 0 || len(need.Courses(n)) != 0 {
			t.Errorf("%d: Size = %d", i, need.Size(n))
		}
		if need.Same(n, n) || need.SameAll(p, p) || need.Same(n, one(0, "A")) || need.Same(one(0, "A"), n) || need.SameAll(p, degree()) || need.SameAll(degree(), p) {
			t.Errorf("%d: Same", i)
		}
	}
}

// TestShared: R3 and R5: nodes that share memory are nodes of their own, and so are their leaves.
func TestShared(t *testing.T) {
	n := one(0, "B A")
	for range 12 {
		n = every(n, n)
	}
	leaves := need.Leaves(n)
	if size := need.Size(n); size != 1<<13-1 || len(leaves) != 1<<12 || !slices.Equal(need.Courses(n), set("A B")) || !need.Same(n, copied(n)) {
		t.Fatalf("Size = %d, and %d leaves", size, len(leaves))
	}
	leaves[0].Set[0] = in("Q")
	if leaves[1].Set[0] != in("B") || n.L[0].L[0].L[0].L[0].L[0].L[0].L[0].L[0].L[0].L[0].L[0].L[0].Set[0] != in("B") {
		t.Error("shared")
	}
}
