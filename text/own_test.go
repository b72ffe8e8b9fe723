package text_test

import (
	"fmt"
	"slices"
	"testing"

	"quadrivium/api"
	"quadrivium/need"
	"quadrivium/text"
)

// roomy lays n into memory in which others stand before and behind each list; check reports whether they still do.
func roomy(n api.Need) (in api.Need, check func() bool) {
	c, other := api.Course{School: 77, Code: "AROUND"}, api.Need{Kind: -9, N: -9, Min: -9}
	courses := slices.Concat([]api.Course{c}, n.Set, []api.Course{c})
	list := slices.Concat([]api.Need{other}, n.L, []api.Need{other})
	size, length := len(n.Set), len(n.L)
	n.Set, n.L = courses[1:1+size], list[1:1+length]
	var below []func() bool
	for i := range n.L {
		x, ok := roomy(n.L[i])
		n.L[i], below = x, append(below, ok)
	}
	return n, func() bool {
		ok := courses[0] == c && courses[size+1] == c && need.Same(list[0], other) && need.Same(list[length+1], other)
		for _, f := range below {
			ok = ok && f()
		}
		return ok
	}
}

// smallWrong are wrong requirements that have an end, and few nodes.
func smallWrong() []api.Need {
	return slices.DeleteFunc(wrongNeeds(), func(n api.Need) bool { return need.Size(n) == 0 || need.Size(n) > 100 })
}

// TestArguments: R3: no requirement, and no programme, is changed, nor memory around its lists.
func TestArguments(t *testing.T) {
	wrong := smallWrong()
	if len(wrong) < 30 {
		t.Fatalf("only %d wrong requirements", len(wrong))
	}
	for _, n := range append(rightNeeds(), wrong...) {
		in, check := roomy(n)
		text.WriteNeed(in)
		around := [][2]api.Course{{}, arts().Exclude[0], arts().Exclude[1], {}}
		p := changed(func(p *api.Programme) { p.Need, p.Exclude = in, around[1:3] })
		text.Write(p)
		if !check() || !need.Same(in, n) || !need.SameAll(p, changed(func(p *api.Programme) { p.Need = n })) || around[0] != [2]api.Course{} || around[3] != [2]api.Course{} {
			t.Errorf("%v was changed to %v, or %v", n, in, p)
		}
	}
}

// spoil overwrites all the memory that n reaches, also behind the ends of its lists.
func spoil(n api.Need) {
	for i := range n.Set[:cap(n.Set)] {
		n.Set[:cap(n.Set)][i] = api.Course{School: -7, Code: "spoilt"}
	}
	for i := range n.L[:cap(n.L)] {
		spoil(n.L[:cap(n.L)][i])
		n.L[:cap(n.L)][i] = api.Need{Kind: -7}
	}
}

// TestResults: R3: no two results share memory.
func TestResults(t *testing.T) {
	for _, p := range rightProgrammes() {
		s, part := modelProgramme(p), modelNeed(p.Need)
		before, _ := text.ReadNeed(part)
		all, _ := text.Read(s)
		n, _ := text.ReadNeed(part)
		spoil(n)
		again, _ := text.Read(s)
		spoil(again.Need)
		for i := range again.Exclude[:cap(again.Exclude)] {
			again.Exclude[:cap(again.Exclude)][i] = [2]api.Course{}
		}
		if !need.Same(before, p.Need) || !need.SameAll(all, p) {
			t.Errorf("two results of %q share memory", s)
		}
		readNeed(t, part, p.Need)
		readAll(t, s, p)
	}
}

// TestResultsLists: R3: no two lists of one result share memory, nor what is behind them.
func TestResultsLists(t *testing.T) {
	for _, want := range rightNeeds() {
		n, _ := text.ReadNeed(modelNeed(want))
		sets, lists := map[*api.Course]bool{}, map[*api.Need]bool{}
		visit(n, func(x api.Need) {
			if !take(sets, x.Set) || !take(lists, x.L) {
				t.Errorf("two lists of %v share memory", want)
			}
		})
	}
}

// take adds the memory of l to what is taken, and reports whether none of it was.
func take[T any](taken map[*T]bool, l []T) bool {
	l = l[:cap(l)]
	for i := range l {
		if taken[&l[i]] {
			return false
		}
		taken[&l[i]] = true
	}
	return true
}

// visit calls f for each node of n.
func visit(n api.Need, f func(x api.Need)) {
	f(n)
	for _, x := range n.L {
		visit(x, f)
	}
}

// TestZero: P9.3: fields that a Kind does not write are zero.
func TestZero(t *testing.T) {
	for _, want := range rightNeeds() {
		n, _ := text.ReadNeed(modelNeed(want))
		visit(n, func(x api.Need) {
			leaf := x.Kind == api.NeedCourse || x.Kind == api.NeedCredits
			if (x.Kind == api.NeedCourse || x.Kind == api.NeedAll) && x.N != 0 || leaf && len(x.L) > 0 || !leaf && (x.Min != 0 || len(x.Set) > 0) {
				t.Errorf("%v has more than its text", x)
			}
		})
	}
}

// TestAgain: R4: the same calls return the same, whatever came between.
func TestAgain(t *testing.T) {
	calls := func() string {
		s := ""
		for _, p := range append(rightProgrammes(), changed(func(p *api.Programme) { p.Need = api.Need{} }), api.Programme{}) {
			a, err := text.Write(p)
			b, errNeed := text.WriteNeed(p.Need)
			s += fmt.Sprintln(a, err, b, errNeed)
			for _, x := range []string{a, b, a[len(a)/2:], b[len(b)/2:], a + ")", b + ";", "\xff"} {
				all, err := text.Read(x)
				n, errNeed := text.ReadNeed(x)
				s += fmt.Sprintln(all, err, n, errNeed)
			}
		}
		return s
	}
	first := calls()
	for range 5 {
		if calls() != first {
			t.Fatal("the same calls return something else")
		}
	}
}
