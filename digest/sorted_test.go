package digest_test

import (
	"slices"
	"strings"
	"testing"

	"quadrivium/digest"
)

// TestSorted: P2.6.
func TestSorted(t *testing.T) {
	for _, x := range []struct {
		l    []string
		want bool
	}{
		{nil, true}, {[]string{}, true}, {[]string{""}, true}, {[]string{"b"}, true}, {[]string{"", "\x00", "\x00\x00", "\x01"}, true},
		{[]string{"a", "aa", "ab", "b"}, true}, {[]string{"B", "a", "é", "\xff"}, true}, {[]string{"10", "9"}, true},
		{[]string{"", ""}, false}, {[]string{"a", "a"}, false}, {[]string{"b", "a"}, false}, {[]string{"aa", "a"}, false},
		{[]string{"a", "b", "b", "c"}, false}, {[]string{"a", "c", "b"}, false}, {[]string{"b", "a", "c"}, false}, {[]string{"\xff", "é"}, false}, {[]string{"9", "10"}, false},
	} {
		before := slices.Clone(x.l)
		if got := digest.Sorted(x.l); got != x.want || !slices.Equal(before, x.l) {
			t.Errorf("Sorted(%q) = %v", x.l, got)
		}
	}
	l := names(300)
	for k := range l {
		if !digest.Sorted(l) || digest.Sorted(with(l, k, "name 9999")) != (k == 299) || k > 0 && digest.Sorted(with(l, k, l[k-1])) {
			t.Errorf("Sorted of 300 strings, of which the one with the index %d is another", k)
		}
	}
}

// TestAroundExamples: P2.7 and P2.8: the examples of the chapter.
func TestAroundExamples(t *testing.T) {
	l := []string{"b", "d", "f"}
	i, leaves, proof, ok := digest.Around(l, "c", "e")
	if i != 0 || !slices.Equal(leaves, l) || len(proof) != 0 || !ok {
		t.Errorf("Around from c to e = %d, %q, %q, %v", i, leaves, proof, ok)
	}
	if got, ok := digest.Within(digest.Root(l), 3, "c", "e", i, leaves, proof); !slices.Equal(got, []string{"d"}) || !ok {
		t.Errorf("Within from c to e = %q, %v", got, ok)
	}
	i, leaves, proof, ok = digest.Around(l, "x", "y")
	if i != 2 || !slices.Equal(leaves, []string{"f"}) || digits(proof...) != "018fc21b18ee5aae" || !ok {
		t.Errorf("Around from x to y = %d, %q, %q, %v", i, leaves, proof, ok)
	}
	if got, ok := digest.Within(digest.Root(l), 3, "x", "y", i, leaves, proof); len(got) != 0 || !ok {
		t.Errorf("Within from x to y = %q, %v", got, ok)
	}
}

// some is a choice of the strings, by the bits of set.
func some(strings []string, set int) []string {
	var l []string
	for k, s := range strings {
		if set>>k&1 == 1 {
			l = append(l, s)
		}
	}
	return l
}

// ends are strings that are in the lists, between two of them, before all and behind all.
var ends = []string{"", "\x00", "a", "a\x00", "aa", "ab", "b", "c", "c\x00", "d", "f", "f\xff", "\xff\xff"}

// TestAround: P2.7 and P2.12, for all lists of some strings, and all ends.
func TestAround(t *testing.T) {
	for set := range 1 << 8 {
		l := some([]string{"", "a", "aa", "b", "c", "d", "f", "\xff"}, set)
		for _, from := range ends {
			for _, to := range ends {
				around(t, l, from, to)
			}
		}
	}
	l := names(50)
	for k := range l {
		around(t, l, l[k], l[k])
		around(t, l, l[k], l[k]+"\x00")
		around(t, l, l[k]+"\x00", l[(k+7)%50])
		around(t, l, "", l[k])
		around(t, l, l[k], "z")
	}
}

func around(t *testing.T, l []string, from, to string) {
	t.Helper()
	atLeast := func(s string) int {
		k, _ := slices.BinarySearch(l, s)
		return k
	}
	a := atLeast(from)
	b := max(atLeast(to), a)
	i, j := max(a-1, 0), min(b+1, len(l))
	gotI, leaves, proof, ok := digest.Around(l, from, to)
	if gotI != i || !slices.Equal(leaves, l[i:j]) || !slices.Equal(proof, slices.Concat(modelSums(l, 0, i), modelSums(l, j, len(l)))) || !ok {
		t.Errorf("Around of %q from %q to %q = %d, %q, %s, %v", l, from, to, gotI, leaves, digits(proof...), ok)
	}
	if got, ok := within(t, digest.Root(l), len(l), from, to, gotI, leaves, proof); !ok || !slices.Equal(got, between(l, from, to)) {
		t.Errorf("Within of %q from %q to %q = %q, %v", l, from, to, got, ok)
	}
}

// within compares Within with the definition.
func within(t *testing.T, root string, n int, from, to string, i int, leaves, proof []string) ([]string, bool) {
	t.Helper()
	got, ok := digest.Within(root, n, from, to, i, leaves, proof)
	if want, right := modelWithin(root, n, from, to, i, leaves, proof); ok != right || !slices.Equal(got, want) {
		t.Errorf("Within of n %d, from %q to %q, i %d, %q = %q, %v, want %q, %v", n, from, to, i, leaves, got, ok, want, right)
	}
	return got, ok
}

// TestAroundUnsorted: P2.7 for lists that are not sorted, or have a string twice.
func TestAroundUnsorted(t *testing.T) {
	for _, l := range [][]string{{"a", "a"}, {"", ""}, {"b", "a"}, {"a", "c", "b"}, {"a", "b", "b", "c"}, {"a", "b", "c", "d", "c"}, append(names(60), "a")} {
		for _, from := range ends {
			for _, to := range ends {
				if i, leaves, proof, ok := digest.Around(l, from, to); i != 0 || len(leaves) != 0 || len(proof) != 0 || ok {
					t.Errorf("Around of %q from %q to %q = %d, %q, %q, %v", l, from, to, i, leaves, proof, ok)
				}
			}
		}
	}
}

// TestWithin: P2.8: each part of sorted and of other lists, with each end. A single leaf can be the first and the last one.
func TestWithin(t *testing.T) {
	for _, l := range [][]string{
		nil, {"b"}, {"a", "c", "d"}, {"", "a", "b", "d", "f"}, {"a", "aa", "ab", "b", "c", "d", "f"},
		{"b", "a"}, {"a", "a"}, {"b", "c", "a"}, {"a", "b", "b", "c", "b", "d"},
	} {
		root := digest.Root(l)
		for i := range len(l) + 1 {
			for j := i; j <= len(l); j++ {
				proof, _ := digest.Prove(l, i, j)
				for _, from := range ends {
					for _, to := range ends {
						within(t, root, len(l), from, to, i, l[i:j], proof)
					}
				}
			}
		}
	}
}

// TestWithinNamed: P2.8, each of its conditions by name.
func TestWithinNamed(t *testing.T) {
	sorted, mixed, twice := []string{"a", "c", "e", "g", "i"}, []string{"c", "a", "e", "g", "b"}, []string{"a", "c", "c", "e"}
	for _, x := range []struct {
		name     string
		l        []string
		i, j     int
		from, to string
		want     string
		ok       bool
	}{
		{"both ends outside", sorted, 1, 4, "d", "f", "e", true},
		{"the first leaf is from", sorted, 1, 4, "c", "f", "", false},
		{"the first leaf is greater than from", sorted, 1, 4, "b", "f", "", false},
		{"the last leaf is to", sorted, 1, 4, "d", "g", "e", true},
		{"the last leaf is less than to", sorted, 1, 4, "d", "h", "", false},
		{"from is in the list", sorted, 0, 3, "c", "e", "c", true},
		{"the beginning of the list", sorted, 0, 2, "", "b", "a", true},
		{"the end of the list", sorted, 3, 5, "h", "z", "i", true},
		{"all of it", sorted, 0, 5, "", "z", "a c e g i", true},
		{"equal ends in the list", sorted, 0, 3, "c", "c", "", true},
		{"equal ends between two strings", sorted, 1, 3, "d", "d", "", true},
		{"the wrong order", sorted, 2, 3, "g", "b", "", true},
		{"one leaf is the first and the last one", sorted, 2, 3, "f", "e", "", true},
		{"one leaf is not the last one", sorted, 2, 3, "f", "ee", "", false},
		{"one leaf is not the first one", sorted, 2, 3, "e", "b", "", false},
		{"no leaves inside", sorted, 2, 2, "d", "d", "", false},
		{"no leaves at the beginning", sorted, 0, 0, "", "", "", false},
		{"no leaves at the end", sorted, 5, 5, "x", "y", "", false},
		{"no leaves of the empty list", nil, 0, 0, "x", "y", "", true},
		{"behind all", sorted, 4, 5, "x", "y", "", true},
		{"before all", sorted, 0, 1, "", "a", "", true},
		{"leaves that are not sorted", mixed, 0, 3, "a", "b", "", false},
		{"sorted leaves of another list", mixed, 1, 4, "b", "f", "e", true},
		{"a leaf twice", twice, 0, 4, "a", "z", "", false},
		{"a leaf twice between the ends", twice, 0, 4, "c", "d", "", false},
	} {
		proof, _ := digest.Prove(x.l, x.i, x.j)
		got, ok := within(t, digest.Root(x.l), len(x.l), x.from, x.to, x.i, x.l[x.i:x.j], proof)
		if ok != x.ok || strings.Join(got, " ") != x.want {
			t.Errorf("%s: Within = %q, %v", x.name, got, ok)
		}
	}
}

// TestWithinRefused: P2.8: what Verify refuses, and what leaves strings out.
func TestWithinRefused(t *testing.T) {
	l := names(13)
	root := digest.Root(l)
	for k := range 12 {
		from, to := l[k], l[k+1]
		i, leaves, proof, _ := digest.Around(l, from, to)
		for _, n := range bounds(13) {
			if n == 13 {
				continue
			}
			if _, ok := within(t, root, n, from, to, i, leaves, proof); ok {
				t.Errorf("Within accepts the length %d", n)
			}
		}
		for _, at := range bounds(13) {
			if _, ok := within(t, root, 13, from, to, at, leaves, proof); ok && at != i {
				t.Errorf("Within accepts the index %d for %d", at, i)
			}
		}
		for at := range leaves {
			for _, wrong := range [][]string{without(leaves, at), with(leaves, at, leaves[at]+"\x00")} {
				if _, ok := within(t, root, 13, from, to, i, wrong, proof); ok {
					t.Errorf("Within accepts %q for %q", wrong, leaves)
				}
			}
		}
		for _, wrong := range malformed(proof) {
			if _, ok := within(t, root, 13, from, to, i, leaves, wrong); ok {
				t.Errorf("Within accepts the proof %q", wrong)
			}
		}
		for _, wrong := range []string{"", root[:7], root + "\x00", digest.Root(l[:12])} {
			if _, ok := within(t, wrong, 13, from, to, i, leaves, proof); ok {
				t.Errorf("Within accepts the root %q", wrong)
			}
		}
	}
}

// TestWithinMost: P2.8 at the greatest length of a list, and behind it.
func TestWithinMost(t *testing.T) {
	leaves := []string{"a", "b", "c"}
	for _, n := range []int{most, most + 1} {
		root, proof := made(n, n-3, leaves)
		got, ok := digest.Within(root, n, "b", "z", n-3, leaves, proof)
		if right := n <= most; ok != right || right && !slices.Equal(got, leaves[1:]) || !right && len(got) != 0 {
			t.Errorf("Within of n %d = %q, %v", n, got, ok)
		}
	}
}

// TestAbsent: P2.12, last part: between a string that is not there and the same one with a byte 0 there is none.
func TestAbsent(t *testing.T) {
	l := names(25)
	for _, s := range append(names(30), "", "a", "name 0007\x00", "name 00070", "name 000", "z") {
		i, leaves, proof, _ := digest.Around(l, s, s+"\x00")
		got, ok := within(t, digest.Root(l), 25, s, s+"\x00", i, leaves, proof)
		if !ok || (len(got) == 1 && got[0] == s) != slices.Contains(l, s) || len(got) > 1 {
			t.Errorf("Within of %q alone = %q, %v", s, got, ok)
		}
	}
}

// TestOwnSorted: R3: neither Around nor Within hands out, or changes, what it was given.
func TestOwnSorted(t *testing.T) {
	l := names(9)
	before := slices.Clone(l)
	i, leaves, proof, _ := digest.Around(l, l[2], l[7])
	kept, keptProof := slices.Clone(leaves), slices.Clone(proof)
	got, _ := digest.Within(digest.Root(l), 9, l[2], l[7], i, leaves, proof)
	clear(got)
	if !slices.Equal(leaves, kept) || !slices.Equal(proof, keptProof) {
		t.Error("Within changes its arguments, or shares memory with them")
	}
	clear(leaves)
	if !slices.Equal(l, before) || !slices.Equal(proof, keptProof) {
		t.Error("Around shares memory with its argument, or between its results")
	}
	clear(proof)
	if _, again, proof, _ := digest.Around(l, l[2], l[7]); !slices.Equal(again, kept) || !slices.Equal(proof, keptProof) {
		t.Error("Around keeps something from call to call")
	}
}
