package need_test

import (
	"bytes"
	"fmt"
	"math"
	"slices"
	"strings"
	"testing"

	"quadrivium/api"
	"quadrivium/need"
)

// The model follows the words and the promises to the letter; the tests compare the program with it.

// in is a course of the school 1.
func in(code string) api.Course {
	return api.Course{School: 1, Code: code}
}

// set are the courses of the school 1 with the codes that s has, with spaces between them.
func set(s string) []api.Course {
	var l []api.Course
	for code := range strings.FieldsSeq(s) {
		l = append(l, in(code))
	}
	return l
}

// coded are n right courses, of which the first 800 are in order.
func coded(n int) []api.Course {
	var l []api.Course
	for i := range n {
		l = append(l, api.Course{School: 1 + i/100%8, Code: fmt.Sprintf("C%05d", i)})
	}
	return l
}

func one(min int, courses string) api.Need {
	return api.Need{Kind: api.NeedCourse, Min: min, Set: set(courses)}
}

func credits(n, min int, courses string) api.Need {
	return api.Need{Kind: api.NeedCredits, N: n, Min: min, Set: set(courses)}
}

func every(l ...api.Need) api.Need {
	return api.Need{Kind: api.NeedAll, L: l}
}

func some(n int, l ...api.Need) api.Need {
	return api.Need{Kind: api.NeedSome, N: n, L: l}
}

// loose is n with another list L, whatever its Kind is.
func loose(n api.Need, l ...api.Need) api.Need {
	n.L = l
	return n
}

// leaves are n leaves, each with a course of its own, and a Min of its own.
func leaves(n int) []api.Need {
	var l []api.Need
	for i, c := range coded(n) {
		l = append(l, api.Need{Kind: api.NeedCourse, Min: i % 1001, Set: []api.Course{c}})
	}
	return l
}

// chain is a requirement of this depth, with bottom on its lowest level.
func chain(depth int, bottom api.Need) api.Need {
	for level := 1; level < depth; level++ {
		if level%2 == 0 {
			bottom = some(1, bottom)
		} else {
			bottom = every(bottom)
		}
	}
	return bottom
}

// wide has n nodes, of which n - 1 are leaves.
func wide(n int) api.Need {
	return every(leaves(n - 1)...)
}

// packed has n nodes and this depth: all but a few nodes in two lists, of which the second one is on the lowest level.
func packed(n, depth int) api.Need {
	low := chain(depth-2, every(leaves(n/2)...))
	high := every(leaves(n - n/2 - depth)...)
	return every(high, low)
}

// full has as many leaves as there are, each below inner nodes of its own, so that it has the most nodes, too.
func full() api.Need {
	var l []api.Need
	for i, leaf := range leaves(8) {
		leaf.Set = coded(96)[12*i : 12*i+12]
		l = append(l, leaf)
	}
	for i := range 7 {
		l[i] = every(l[i])
	}
	for i := range 7 {
		l[i] = some(1, l[i])
	}
	return every(every(l[:4]...), l[4], l[5], l[6], l[7])
}

// edges are numbers next to all the bounds of the chapter, and at the ends of some widths.
func edges() []int {
	return []int{math.MinInt, math.MinInt + 1, -1 << 32, -1001, -1000, -999, -1, 0, 1, 2, 3, 4, 5, 7, 8, 9, 19, 20, 21, 99, 100, 101, 599, 600, 601, 999, 1000, 1001, 99999, 100000, 100001, 999998, 999999, 1000000, 1 << 32, 1<<32 + 1, 1<<32 + 8, math.MaxInt - 1, math.MaxInt}
}

// rightNeeds are right, each in a way of its own.
func rightNeeds() []api.Need {
	twelve := every(api.Need{Kind: api.NeedCourse, Set: coded(12)}, api.Need{Kind: api.NeedCredits, N: 600, Min: -1000, Set: coded(12)})
	schools := api.Need{Kind: api.NeedCourse, Min: 1000, Set: []api.Course{{School: 1, Code: "ZZZZZZZZ"}, {School: 2, Code: "0"}, {School: 7, Code: "A"}, {School: 8, Code: "A"}, {School: 8, Code: "A0"}}}
	return []api.Need{
		one(50, "A"), credits(6, 0, "A B"), every(one(50, "A"), credits(6, 0, "A B")), some(1, one(0, "A")), some(2, one(1, "A"), one(2, "A")), some(1, credits(1, 0, "B"), one(2, "A")),
		one(-1000, "0"), one(1000, "ABCDEFGH"), credits(600, -1, "9 A A0 A1 AA B"), twelve, schools, every(schools, schools, schools), one(0, "A"), credits(1, 0, "A"),
		every(leaves(8)...), some(8, leaves(8)...), some(1, leaves(8)...), chain(5, one(3, "A B")), chain(5, credits(3, 0, "C")), chain(4, every(leaves(8)...)), full(),
		every(one(1, "C"), some(1, one(2, "B"), one(3, "D")), one(4, "A")), some(2, every(credits(1, 0, "B"), one(0, "A C")), credits(2, 0, "A B C"), every(some(1, one(5, "B")))),
	}
}

// wrongNeeds are not right, each for a fault of its own, or for several.
func wrongNeeds() []api.Need {
	return []api.Need{
		{}, every(), some(0), some(1), some(3, one(50, "A"), one(50, "B")), some(0, one(0, "A")), one(50, "B A"), {Kind: api.NeedCourse, N: 1, Set: set("A")}, one(50, ""), one(0, "A A"), one(0, "A B A"), one(1001, "A"), one(-1001, "A"), credits(0, 0, "A"), credits(601, 0, "A"), credits(1, 0, "a"), credits(1, 0, "ABCDEFGHI"),
		{Kind: 5, Set: set("A")}, {Kind: -1, L: leaves(2)}, loose(one(1, "A"), leaves(1)...), loose(credits(1, 0, "A B"), one(1, "C"), every(), one(2, "A")), every(loose(one(1, "B"), every(one(2, "A")), one(3, "C")), one(4, "A")),
		{Kind: api.NeedAll, Set: set("Z A Z"), L: leaves(2)}, {Kind: api.NeedAll, N: 1, L: leaves(1)}, {Kind: api.NeedAll, Min: 1, L: leaves(1)}, {Kind: api.NeedSome, N: 1, Min: -1, L: leaves(1)}, {Kind: api.NeedSome, N: 1, Set: set("a B A"), L: leaves(1)}, every(every(), some(1, every())), every(one(0, "A"), every()), every(loose(api.Need{}, api.Need{}, api.Need{Kind: 9}), api.Need{}),
		wide(25), wide(10), wide(9900), chain(6, one(1, "A")), chain(100, one(1, "A")), packed(300, 99), every(chain(30, wide(40)), full(), chain(20, wide(7))), {Kind: math.MaxInt, N: math.MinInt, Min: math.MaxInt, Set: []api.Course{{School: math.MinInt, Code: "\xff"}, {School: math.MaxInt}, {}}, L: []api.Need{{Kind: math.MinInt}}},
	}
}

// smallNeeds are all requirements of up to two levels with few values in each field, and up to two nodes below the first one.
func smallNeeds() []api.Need {
	var low, all []api.Need
	for _, kind := range []int{0, 1, 2, 3, 4, 5} {
		for _, n := range []int{0, 1, 601} {
			for _, min := range []int{0, 7, 1001} {
				for _, l := range [][]api.Course{nil, set("A"), set("B A")} {
					low = append(low, api.Need{Kind: kind, N: n, Min: min, Set: l})
				}
			}
		}
	}
	below := []api.Need{one(0, "A"), one(7, "A B"), credits(1, 0, "B"), one(0, "B A"), credits(601, 0, "A"), every(one(0, "C")), some(2, one(0, "C")), every(), {}}
	for _, n := range low {
		all = append(all, n)
		for _, a := range below {
			all = append(all, loose(n, a))
			for _, b := range below {
				all = append(all, loose(n, a, b))
			}
		}
	}
	return all
}

type node struct {
	level int
	need  api.Need
}

// modelNodes is all nodes of n, which has an end, with their levels: it, and the nodes of all elements of its L.
func modelNodes(n api.Need) []node {
	all := []node{{1, n}}
	for _, element := range n.L {
		for _, x := range modelNodes(element) {
			all = append(all, node{x.level + 1, x.need})
		}
	}
	return all
}

func modelDepth(n api.Need) int {
	depth := 0
	for _, x := range modelNodes(n) {
		depth = max(depth, x.level)
	}
	return depth
}

func modelLarge(n api.Need) bool {
	return len(modelNodes(n)) >= 10001 || modelDepth(n) >= 101
}

func modelSize(n api.Need) int {
	if modelLarge(n) {
		return 0
	}
	return len(modelNodes(n))
}

func modelLeaves(n api.Need) []api.Need {
	if modelLarge(n) {
		return nil
	}
	var l []api.Need
	for _, x := range modelNodes(n) {
		if x.need.Kind != 3 && x.need.Kind != 4 {
			l = append(l, x.need)
		}
	}
	return l
}

func modelPrecedes(a, b api.Course) bool {
	return a.School < b.School || a.School == b.School && bytes.Compare([]byte(a.Code), []byte(b.Code)) < 0
}

// modelCourses puts each course before the first one that it precedes.
func modelCourses(n api.Need) []api.Course {
	if modelLarge(n) {
		return nil
	}
	var l []api.Course
	for _, x := range modelNodes(n) {
		for _, c := range x.need.Set {
			at := 0
			for at < len(l) && modelPrecedes(l[at], c) {
				at++
			}
			if at == len(l) || l[at] != c {
				l = slices.Insert(l, at, c)
			}
		}
	}
	return l
}

type fault struct {
	is  bool
	err api.Errno
}

func first(faults []fault) api.Errno {
	for _, f := range faults {
		if f.is {
			return f.err
		}
	}
	return api.OK
}

func modelRight(c api.Course) bool {
	n := 0
	for _, b := range []byte(c.Code) {
		if strings.IndexByte("ABCDEFGHIJKLMNOPQRSTUVWXYZ0123456789", b) >= 0 {
			n++
		}
	}
	return c.School > 0 && c.School < 9 && n == len(c.Code) && n > 0 && n < 9
}

// faultsOfNode are the faults of n in the order of P8.1, 2.
func faultsOfNode(n api.Need) []fault {
	found := []fault{{n.Kind != 1 && n.Kind != 2 && n.Kind != 3 && n.Kind != 4, api.ErrNeed}}
	noL, noSet := len(n.L) == 0, len(n.Set) == 0
	switch n.Kind {
	case 1:
		found = append(found, fault{!(n.N == 0 && noL), api.ErrNeed})
	case 2:
		found = append(found, fault{!noL, api.ErrNeed}, fault{n.N <= 0 || n.N >= 601, api.ErrRange})
	case 3:
		found = append(found, fault{!(n.Min == 0 && noSet && !noL && n.N == 0), api.ErrNeed})
	case 4:
		found = append(found, fault{!(n.Min == 0 && noSet && !noL), api.ErrNeed}, fault{n.N <= 0 || n.N > len(n.L), api.ErrRange})
	}
	if n.Kind == 3 || n.Kind == 4 {
		return found
	}
	found = append(found, fault{n.Min < -1000 || n.Min > 1000, api.ErrRange}, fault{noSet || len(n.Set) >= 13, api.ErrMany})
	for _, c := range n.Set {
		found = append(found, fault{!modelRight(c), api.ErrArg})
	}
	for i := range n.Set {
		found = append(found, fault{i > 0 && !modelPrecedes(n.Set[max(i-1, 0)], n.Set[i]), api.ErrOrder})
	}
	return found
}

func modelCheck(n api.Need) api.Errno {
	leaves := 0
	for _, x := range modelNodes(n) {
		if x.need.Kind != 3 && x.need.Kind != 4 {
			leaves++
		}
	}
	found := []fault{{len(modelNodes(n)) >= 25, api.ErrMany}, {modelDepth(n) >= 6, api.ErrMany}, {leaves >= 9, api.ErrMany}, {leaves == 0, api.ErrMany}}
	for _, x := range modelNodes(n) {
		found = append(found, faultsOfNode(x.need)...)
	}
	return first(found)
}

func modelCheckAll(p api.Programme) api.Errno {
	found := []fault{{p.School <= 0 || p.School >= 9, api.ErrArg}, {p.Id <= 0 || p.Id >= 1000000, api.ErrRange}, {p.Version <= 0 || p.Version >= 21, api.ErrRange}, {p.From < 0 || p.From >= 100001, api.ErrRange}, {p.Total < 0 || p.Total >= 601, api.ErrRange}, {p.Own < 0 || p.Own >= 601, api.ErrRange}, {p.Age < 0 || p.Age >= 101, api.ErrRange}}
	found = append(found, fault{p.Name == "", api.ErrArg}, fault{len(p.Name) >= 41, api.ErrArg})
	for _, b := range []byte(p.Name) {
		found = append(found, fault{b <= 31 || b >= 127 || b == 34, api.ErrArg})
	}
	err := modelCheck(p.Need)
	found = append(found, fault{err != api.OK, err}, fault{len(p.Exclude) >= 9, api.ErrMany})
	for i, x := range p.Exclude {
		twice := false
		for _, before := range p.Exclude[:i] {
			twice = twice || before[0] == x[0] && before[1] == x[1]
		}
		found = append(found, fault{!modelRight(x[0]), api.ErrArg}, fault{!modelRight(x[1]), api.ErrArg}, fault{!modelPrecedes(x[0], x[1]), api.ErrOrder}, fault{twice, api.ErrTwice})
	}
	return first(found)
}

// modelSame compares what the two requirements are written as, which is the same for nil and empty lists.
func modelSame(a, b api.Need) bool {
	return !modelLarge(a) && !modelLarge(b) && written(a) == written(b)
}

// written gives equal strings for equal requirements alone.
func written(n api.Need) string {
	var b strings.Builder
	for _, x := range modelNodes(n) {
		fmt.Fprintf(&b, "%d %d %d %d %d", x.level, x.need.Kind, x.need.N, x.need.Min, len(x.need.Set))
		for _, c := range x.need.Set {
			fmt.Fprintf(&b, " %d %q", c.School, c.Code)
		}
		b.WriteByte('\n')
	}
	return b.String()
}

func sameLists(a, b []api.Need) bool {
	return slices.EqualFunc(a, b, func(x, y api.Need) bool { return written(x) == written(y) })
}

// copied returns n in memory of its own.
func copied(n api.Need) api.Need {
	n.Set = slices.Clone(n.Set)
	n.L = slices.Clone(n.L)
	for i := range n.L {
		n.L[i] = copied(n.L[i])
	}
	return n
}

// short writes a requirement for a message.
func short(n api.Need) string {
	s := fmt.Sprint(n)
	return s[:min(len(s), 300)]
}

// must returns what the call of Check was to accept.
func must(t *testing.T, n api.Need) api.Need {
	t.Helper()
	if err := need.Check(n); err != api.OK {
		t.Fatalf("Check of %s = %d", short(n), err)
	}
	return n
}

// pair are two courses of the school 1.
func pair(a, b string) [2]api.Course {
	return [2]api.Course{in(a), in(b)}
}

// degree is a right programme, whose fields differ from each other.
func degree() api.Programme {
	return api.Programme{School: 3, Id: 17, Version: 2, From: 40, Name: "Arts", Need: every(one(50, "A"), some(1, credits(6, 10, "A B"), one(60, "C"))), Total: 180, Own: 90, Age: 12, Exclude: [][2]api.Course{pair("A", "B"), pair("A", "C")}}
}

// sameProgramme reports whether two programmes are equal (R1).
func sameProgramme(a, b api.Programme) bool {
	l, m := slices.Clone(a.Exclude), slices.Clone(b.Exclude)
	equal := slices.Equal(l, m) && written(a.Need) == written(b.Need)
	a.Exclude, b.Exclude, a.Need, b.Need = nil, nil, api.Need{}, api.Need{}
	return equal && fmt.Sprintf("%#v", a) == fmt.Sprintf("%#v", b)
}
