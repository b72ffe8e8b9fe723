package need_test

import (
	"math"
	"slices"
	"strings"
	"testing"

	"quadrivium/api"
	"quadrivium/need"
)

// changed is degree after a change.
func changed(change func(p *api.Programme)) api.Programme {
	p := degree()
	change(&p)
	return p
}

// checkProgramme compares CheckAll with the model.
func checkProgramme(t *testing.T, p api.Programme) {
	t.Helper()
	if got, want := need.CheckAll(p), modelCheckAll(p); got != want {
		t.Errorf("CheckAll of %v = %d, want %d", p, got, want)
	}
}

// numbers are the fields of a programme that are numbers, with their bounds, and the error beyond them.
func numbers(p *api.Programme) []struct {
	field     *int
	low, high int
	err       api.Errno
} {
	return []struct {
		field     *int
		low, high int
		err       api.Errno
	}{{&p.School, 1, 8, api.ErrArg}, {&p.Id, 1, 999999, api.ErrRange}, {&p.Version, 1, 20, api.ErrRange}, {&p.From, 0, 100000, api.ErrRange}, {&p.Total, 0, 600, api.ErrRange}, {&p.Own, 0, 600, api.ErrRange}, {&p.Age, 0, 100, api.ErrRange}}
}

// TestCheckAll: P8.2: a programme with pairs and one without, each number at its bounds, and each fault alone.
func TestCheckAll(t *testing.T) {
	for i, x := range []struct {
		p    api.Programme
		want api.Errno
	}{
		{degree(), api.OK}, {changed(func(p *api.Programme) { p.Exclude = nil }), api.OK}, {changed(func(p *api.Programme) { p.Exclude = [][2]api.Course{} }), api.OK}, {api.Programme{School: 1, Id: 1, Version: 1, Name: "x", Need: one(0, "A")}, api.OK}, {api.Programme{School: 8, Id: 999999, Version: 20, From: 100000, Name: strings.Repeat("~", 40), Need: full(), Total: 600, Own: 600, Age: 100}, api.OK}, {changed(func(p *api.Programme) { p.Total, p.Own = 1, 600 }), api.OK},
		{api.Programme{}, api.ErrArg}, {changed(func(p *api.Programme) { p.Name = "" }), api.ErrArg}, {changed(func(p *api.Programme) { p.Need = api.Need{} }), api.ErrNeed}, {changed(func(p *api.Programme) { p.Need = every() }), api.ErrMany}, {changed(func(p *api.Programme) { p.Need = one(0, "B A") }), api.ErrOrder}, {changed(func(p *api.Programme) { p.Need = one(0, "a") }), api.ErrArg}, {changed(func(p *api.Programme) { p.Need = some(3, leaves(2)...) }), api.ErrRange}, {changed(func(p *api.Programme) { p.Need = chain(100000, one(0, "A")) }), api.ErrMany},
	} {
		if got := need.CheckAll(x.p); got != x.want {
			t.Errorf("%d: CheckAll = %d, want %d", i, got, x.want)
		}
	}
	p := degree()
	for i, f := range numbers(&p) {
		before := *f.field
		for _, n := range slices.Concat(edges(), []int{f.low - 1, f.low, f.low + 1, f.high - 1, f.high, f.high + 1}) {
			*f.field = n
			want := api.OK
			if n < f.low || n > f.high {
				want = f.err
			}
			if got := need.CheckAll(p); got != want {
				t.Errorf("CheckAll with the number %d of the field %d = %d, want %d", n, i, got, want)
			}
		}
		*f.field = before
	}
}

// TestCheckName: P8.2: lengths of names, and each byte at each place of a short one, and at both ends of a long one.
func TestCheckName(t *testing.T) {
	for s, want := range map[string]api.Errno{
		"": api.ErrArg, "A": api.OK, " ": api.OK, "~": api.OK, "!": api.OK, "#": api.OK, "\x1f": api.ErrArg, "\"": api.ErrArg, "\x7f": api.ErrArg, "\xff": api.ErrArg, "\x00": api.ErrArg, "\n": api.ErrArg, "\x80": api.ErrArg, "É": api.ErrArg, "a \"b\"": api.ErrArg, "'a' b": api.OK,
		strings.Repeat("n", 39): api.OK, strings.Repeat("n", 40): api.OK, strings.Repeat("n", 41): api.ErrArg, strings.Repeat(" ", 40): api.OK, strings.Repeat("é", 20): api.ErrArg, strings.Repeat("n", 39) + "\"": api.ErrArg, "\"" + strings.Repeat("n", 39): api.ErrArg, strings.Repeat("n", 1<<20): api.ErrArg,
	} {
		if got := need.CheckAll(changed(func(p *api.Programme) { p.Name = s })); got != want {
			t.Errorf("CheckAll with the name %q = %d", s[:min(len(s), 50)], got)
		}
	}
	for c := range 256 {
		for _, name := range []string{"N", "Nm", "Name", strings.Repeat("x", 40)} {
			for at := range len(name) {
				s := []byte(name)
				s[at] = byte(c)
				checkProgramme(t, changed(func(p *api.Programme) { p.Name = string(s) }))
			}
		}
	}
}

// TestCheckExclude: P8.2: how many pairs there are, their courses, their order, and pairs that are there twice.
func TestCheckExclude(t *testing.T) {
	of := func(a int, s string, b int, t string) [2]api.Course {
		return [2]api.Course{{School: a, Code: s}, {School: b, Code: t}}
	}
	var many [][2]api.Course
	for _, c := range coded(100)[1:] {
		many = append(many, [2]api.Course{coded(1)[0], c})
	}
	for i, x := range []struct {
		l    [][2]api.Course
		want api.Errno
	}{
		{[][2]api.Course{pair("A", "B")}, api.OK}, {many[:7], api.OK}, {many[:8], api.OK}, {many[:9], api.ErrMany}, {many, api.ErrMany}, {make([][2]api.Course, 9), api.ErrMany}, {make([][2]api.Course, 8), api.ErrArg}, {slices.Repeat([][2]api.Course{pair("B", "A")}, 9), api.ErrMany},
		{[][2]api.Course{pair("A", "A")}, api.ErrOrder}, {[][2]api.Course{pair("B", "A")}, api.ErrOrder}, {[][2]api.Course{pair("A", "A0")}, api.OK}, {[][2]api.Course{of(1, "B", 2, "A")}, api.OK}, {[][2]api.Course{of(2, "A", 1, "B")}, api.ErrOrder}, {[][2]api.Course{of(1, "A", 8, "A")}, api.OK}, {[][2]api.Course{of(8, "A", 8, "A")}, api.ErrOrder}, {[][2]api.Course{pair("A", "B"), pair("C", "B")}, api.ErrOrder}, {[][2]api.Course{pair("Y", "Z"), pair("A", "B")}, api.OK},
		{[][2]api.Course{pair("a", "B")}, api.ErrArg}, {[][2]api.Course{pair("A", "b")}, api.ErrArg}, {[][2]api.Course{pair("", "B")}, api.ErrArg}, {[][2]api.Course{pair("A", "")}, api.ErrArg}, {[][2]api.Course{pair("A", "ABCDEFGHI")}, api.ErrArg}, {[][2]api.Course{of(0, "A", 1, "B")}, api.ErrArg}, {[][2]api.Course{of(1, "A", 9, "B")}, api.ErrArg}, {[][2]api.Course{of(math.MinInt, "A", math.MaxInt, "B")}, api.ErrArg}, {[][2]api.Course{of(9, "A", 1, "B")}, api.ErrArg}, {[][2]api.Course{pair("A", "B"), of(1, "A", 9, "B")}, api.ErrArg},
		{[][2]api.Course{pair("A", "B"), pair("A", "B")}, api.ErrTwice}, {[][2]api.Course{pair("A", "B"), pair("A", "C"), pair("B", "C"), pair("A", "B")}, api.ErrTwice}, {[][2]api.Course{pair("A", "C"), pair("A", "B"), pair("B", "C"), pair("A", "B")}, api.ErrTwice}, {[][2]api.Course{pair("A", "B"), of(1, "A", 2, "B"), of(2, "A", 2, "B")}, api.OK}, {append(many[:7:7], many[0]), api.ErrTwice}, {append(many[:7:7], many[6]), api.ErrTwice}, {append(many[:8:8], many[0]), api.ErrMany},
		{[][2]api.Course{pair("B", "A"), pair("b", "A")}, api.ErrOrder}, {[][2]api.Course{pair("b", "A"), pair("B", "A")}, api.ErrArg}, {[][2]api.Course{pair("A", "B"), pair("A", "B"), pair("a", "B")}, api.ErrTwice}, {[][2]api.Course{pair("A", "B"), pair("B", "A"), pair("A", "B")}, api.ErrOrder}, {[][2]api.Course{pair("B", "A"), pair("B", "A")}, api.ErrOrder}, {[][2]api.Course{pair("b", "a"), pair("b", "a")}, api.ErrArg}, {[][2]api.Course{pair("A", "B"), pair("B", "a")}, api.ErrArg},
	} {
		p := changed(func(p *api.Programme) { p.Exclude = x.l })
		if got := need.CheckAll(p); got != x.want {
			t.Errorf("%d: CheckAll with %v = %d, want %d", i, x.l, got, x.want)
		}
		checkProgramme(t, p)
	}
	for _, n := range edges() {
		for _, m := range edges() {
			checkProgramme(t, changed(func(p *api.Programme) { p.Exclude = [][2]api.Course{pair("A", "B"), of(n, "A", m, "B")} }))
		}
	}
}

// TestCheckAllFirst: P8.2: of several faults the first one in the order of the chapter counts.
func TestCheckAllFirst(t *testing.T) {
	twice := [][2]api.Course{pair("A", "B"), pair("A", "B")}
	faults := []struct {
		change func(p *api.Programme)
		err    api.Errno
	}{
		{func(p *api.Programme) { p.School = 0 }, api.ErrArg}, {func(p *api.Programme) { p.Id = 0 }, api.ErrRange}, {func(p *api.Programme) { p.Version = 21 }, api.ErrRange}, {func(p *api.Programme) { p.From = -1 }, api.ErrRange}, {func(p *api.Programme) { p.Total = 601 }, api.ErrRange}, {func(p *api.Programme) { p.Own = -1 }, api.ErrRange}, {func(p *api.Programme) { p.Age = 101 }, api.ErrRange}, {func(p *api.Programme) { p.Name = "\"" }, api.ErrArg}, {func(p *api.Programme) { p.Need.N = 1 }, api.ErrNeed}, {func(p *api.Programme) { p.Exclude = twice }, api.ErrTwice},
	}
	for i, f := range faults {
		for _, g := range faults[i+1:] {
			both := changed(func(p *api.Programme) { g.change(p); f.change(p) })
			if got := need.CheckAll(both); got != f.err {
				t.Errorf("CheckAll of %v = %d, want %d", both, got, f.err)
			}
		}
		after := changed(func(p *api.Programme) {
			for _, g := range faults[i:] {
				g.change(p)
			}
		})
		if got := need.CheckAll(after); got != f.err {
			t.Errorf("CheckAll of %v = %d, want %d", after, got, f.err)
		}
	}
	for _, l := range [][][2]api.Course{make([][2]api.Course, 9), {pair("a", "A")}, {pair("B", "A")}, twice} {
		if got := need.CheckAll(changed(func(p *api.Programme) { p.Need, p.Exclude = one(2000, "A"), l })); got != api.ErrRange {
			t.Errorf("CheckAll with %v = %d", l, got)
		}
	}
}

// TestCheckAllErrors: P8.2: the errors of Need are those of Check.
func TestCheckAllErrors(t *testing.T) {
	for _, n := range slices.Concat(smallNeeds(), rightNeeds(), wrongNeeds()) {
		p := changed(func(p *api.Programme) { p.Need = n })
		if got, want := need.CheckAll(p), need.Check(n); got != want {
			t.Errorf("CheckAll with %s = %d, want %d", short(n), got, want)
		}
	}
}

// different are changes of a programme, of one field each, no two of which are the same.
func different() []func(p *api.Programme) {
	var l []func(p *api.Programme)
	for i := range numbers(&api.Programme{}) {
		for _, n := range []int{0, 1, 5, math.MinInt, math.MaxInt, 1<<32 + 3} {
			l = append(l, func(p *api.Programme) { *numbers(p)[i].field = n })
		}
	}
	for _, s := range []string{"", "arts", "Art", "Arts ", "Arts\x00", "\xff"} {
		l = append(l, func(p *api.Programme) { p.Name = s })
	}
	for _, n := range []api.Need{{}, one(50, "A"), every(), every(one(50, "A")), full()} {
		l = append(l, func(p *api.Programme) { p.Need = n })
	}
	a, b := pair("A", "B"), pair("A", "C")
	for _, x := range [][][2]api.Course{nil, {a}, {b}, {b, a}, {a, a}, {a, b, a}, {a, {b[1], b[0]}}, {a, {b[0], {School: 2, Code: "C"}}}, {a, {{}, {}}}, {a, {{School: 2, Code: "A"}, b[1]}}} {
		l = append(l, func(p *api.Programme) { p.Exclude = x })
	}
	return append(l, func(p *api.Programme) {})
}

// TestSameAll: P8.4: programmes that differ in one field, for each of them, and that are equal, but for nil and empty lists.
func TestSameAll(t *testing.T) {
	for i, a := range different() {
		for k, b := range different() {
			if got := need.SameAll(changed(a), changed(b)); got != (i == k) {
				t.Errorf("SameAll of %v and %v = %v", changed(a), changed(b), got)
			}
		}
	}
	if !need.SameAll(api.Programme{}, api.Programme{Exclude: [][2]api.Course{}, Need: api.Need{Set: []api.Course{}, L: []api.Need{}}}) {
		t.Error("nil and empty")
	}
	for i := range modelNodes(degree().Need) {
		p := changed(func(p *api.Programme) { p.Need = put(p.Need, i, one(1, "Q")) })
		if need.SameAll(degree(), p) || need.SameAll(p, degree()) || !need.SameAll(p, p) {
			t.Errorf("SameAll with another node %d", i)
		}
	}
}

// TestSameAllLarge: P8.4: false, if one of the requirements is too large, even with itself.
func TestSameAllLarge(t *testing.T) {
	for _, n := range []api.Need{wide(10001), chain(101, one(0, "A"))} {
		large, other := changed(func(p *api.Programme) { p.Need = n }), degree()
		if need.SameAll(large, large) || need.SameAll(large, other) || need.SameAll(other, large) {
			t.Error("SameAll with a large requirement")
		}
	}
	for _, n := range []api.Need{wide(10000), chain(100, one(0, "A"))} {
		p, q := changed(func(p *api.Programme) { p.Need = n }), changed(func(p *api.Programme) { p.Need = copied(n) })
		if !need.SameAll(p, q) || need.SameAll(p, degree()) || need.SameAll(degree(), p) {
			t.Error("SameAll with the largest requirement")
		}
	}
}
