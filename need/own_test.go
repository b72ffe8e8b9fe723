package need_test

import (
	"slices"
	"testing"

	"quadrivium/api"
	"quadrivium/need"
)

// around are what stands before and behind the lists of roomy.
func around() (api.Course, api.Need) {
	return in("AROUND"), api.Need{Kind: -9, N: -9, Min: -9}
}

// roomy lays n into memory in which others stand before and behind each list; check reports whether they still do.
func roomy(n api.Need) (in api.Need, check func() bool) {
	c, other := around()
	courses := slices.Concat([]api.Course{c}, n.Set, []api.Course{c, c})
	list := slices.Concat([]api.Need{other}, n.L, []api.Need{other, other})
	size, length := len(n.Set), len(n.L)
	n.Set, n.L = courses[1:1+size], list[1:1+length]
	var below []func() bool
	for i := range n.L {
		x, ok := roomy(n.L[i])
		n.L[i], below = x, append(below, ok)
	}
	return n, func() bool {
		ok := courses[0] == c && courses[size+1] == c && courses[size+2] == c
		for _, x := range []api.Need{list[0], list[length+1], list[length+2]} {
			ok = ok && written(x) == written(other)
		}
		for _, f := range below {
			ok = ok && f()
		}
		return ok
	}
}

// spoil overwrites all the memory that l reaches, also behind its ends.
func spoil(l []api.Need) {
	for _, n := range l {
		spoilList(n.Set, in("spoilt"))
		spoil(n.L)
	}
	spoilList(l, api.Need{Kind: -77, Set: set("spoilt")})
}

func spoilList[T any](l []T, v T) {
	for i := range l[:cap(l)] {
		l[:cap(l)][i] = v
	}
}

// TestArguments: R3: no argument is changed, nor memory behind it, and what is done to a result changes none.
func TestArguments(t *testing.T) {
	for _, n := range slices.Concat(rightNeeds(), wrongNeeds()[:30]) {
		in, check := roomy(n)
		other, checkOther := roomy(full())
		need.Check(in)
		need.Size(in)
		need.Same(in, other)
		need.Same(other, in)
		need.Same(in, in)
		spoilList(need.Courses(in), api.Course{Code: "spoilt"})
		spoil(need.Leaves(in))
		if written(in) != written(n) || !check() || !checkOther() || written(other) != written(full()) {
			t.Errorf("%s was changed to %s", short(n), short(in))
		}
	}
}

// TestArgumentsAll: R3: no programme is changed, nor the memory around its pairs.
func TestArgumentsAll(t *testing.T) {
	twice := [][2]api.Course{pair("A", "B"), pair("A", "C"), pair("A", "B")}
	for _, l := range [][][2]api.Course{nil, {pair("B", "A")}, {pair("C", "D"), pair("A", "B")}, twice} {
		for _, n := range []api.Need{full(), one(0, "B A"), every(one(0, "C"), one(0, "A"))} {
			memory := slices.Concat([][2]api.Course{pair("x", "y")}, l, [][2]api.Course{pair("y", "x"), pair("x", "x")})
			p := changed(func(p *api.Programme) { p.Exclude = memory[1 : 1+len(l)] })
			in, check := roomy(n)
			p.Need = in
			need.CheckAll(p)
			need.SameAll(p, degree())
			need.SameAll(degree(), p)
			need.SameAll(p, p)
			want := changed(func(p *api.Programme) { p.Exclude, p.Need = l, n })
			if !check() || !sameProgramme(p, want) || memory[0] != pair("x", "y") || memory[1+len(l)] != pair("y", "x") || memory[2+len(l)] != pair("x", "x") {
				t.Errorf("%v was changed to %v", want, p)
			}
		}
	}
}

// TestResults: R3: no two results, and no two lists of one result, share memory.
func TestResults(t *testing.T) {
	for _, n := range slices.Concat(rightNeeds(), wrongNeeds()[:30]) {
		want := modelLeaves(n)
		again, got := need.Leaves(n), need.Leaves(n)
		for i := range got {
			// What is behind a list counts as well: it must not be the list of another leaf.
			got[i].Set, got[i].L = append(got[i].Set, in("behind")), append(got[i].L, api.Need{Kind: -77})
			spoil(got[i : i+1 : i+1])
			if !sameLists(got[i+1:], want[i+1:]) {
				t.Fatalf("Leaves of %s share memory", short(n))
			}
		}
		courses := need.Courses(n)
		spoilList(need.Courses(n), api.Course{Code: "spoilt"})
		if !sameLists(again, want) || !slices.Equal(courses, modelCourses(n)) {
			t.Errorf("two results of %s share memory", short(n))
		}
	}
}

// TestAgain: R4: the same calls return the same, whatever came between.
func TestAgain(t *testing.T) {
	for range 5 {
		for _, n := range slices.Concat(rightNeeds(), wrongNeeds()[:30]) {
			checkCheck(t, n)
			checkLists(t, n)
			checkProgramme(t, changed(func(p *api.Programme) { p.Need = n }))
		}
	}
}
