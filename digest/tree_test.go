package digest_test

import (
	"math"
	"slices"
	"testing"

	"quadrivium/digest"
)

// TestRoot: P2.3, with some roots written out.
func TestRoot(t *testing.T) {
	leaf := func(s string) string { return digest.Of("\x03" + s) }
	pair := func(a, b string) string { return digest.Of("\x04" + a + b) }
	root := func(n int, top string) string { return digest.Of("\x06" + eight(n) + top) }
	a, b, c, d, e, f := leaf("a"), leaf("b"), leaf("c"), leaf("d"), leaf("e"), leaf("f")
	for n, want := range []string{
		root(0, digest.Of("\x05")), root(1, a), root(2, pair(a, b)), root(3, pair(pair(a, b), c)), root(4, pair(pair(a, b), pair(c, d))),
		root(5, pair(pair(pair(a, b), pair(c, d)), e)), root(6, pair(pair(pair(a, b), pair(c, d)), pair(e, f))),
		root(7, pair(pair(pair(a, b), pair(c, d)), pair(pair(e, f), leaf("")))),
	} {
		if got := digest.Root([]string{"a", "b", "c", "d", "e", "f", ""}[:n]); got != want {
			t.Errorf("the root of %d strings is %s, want %s", n, digits(got), digits(want))
		}
	}
	for n, want := range []string{"3fd7281d0f5d49ca", "37a7a2987660a221", "4967270a570ded42", "34d0c2d05c2f2ee4", "457af62c68987213"} {
		if got := digits(digest.Root([]string{"a", "b", "c", "d"}[:n])); got != want {
			t.Errorf("the root of %d strings is %s, want %s", n, got, want)
		}
	}
	for n := range 80 {
		for _, l := range lists(n) {
			before := slices.Clone(l)
			if got, want := digest.Root(l), modelRoot(l); got != want || !slices.Equal(l, before) {
				t.Errorf("the root of %.80q is %s, want %s", l, digits(got), digits(want))
			}
		}
	}
	if digest.Root(nil) != digest.Root([]string{}) || digest.Root(nil) == digest.Root([]string{""}) {
		t.Error("the root of no strings")
	}
}

// bounds are indices and lengths around those of a list of n strings, and far from them.
func bounds(n int) []int {
	l := []int{math.MinInt, math.MinInt + 1, -1 << 40, -2, -1, n + 1, n + 2, 1 << 40, 1<<40 + 1, 1 << 62, math.MaxInt - 1, math.MaxInt}
	for k := range n + 1 {
		l = append(l, k)
	}
	return l
}

// TestProve: P2.3: the examples, all i and j of short lists, and such as are none.
func TestProve(t *testing.T) {
	if got, ok := digest.Prove([]string{"a", "b", "c"}, 1, 2); !ok || digits(got...) != "6a0325815f45362f"+"6a0325835f453631" {
		t.Errorf("Prove of a, b, c, 1, 2 = %s, %v", digits(got...), ok)
	}
	for n := range 20 {
		for _, l := range lists(n) {
			for _, i := range bounds(n) {
				for _, j := range bounds(n) {
					proved(t, l, i, j)
				}
			}
		}
	}
	for _, l := range lists(67) {
		for i := range 68 {
			proved(t, l, i, 67)
			proved(t, l, 0, i)
			proved(t, l, i, i)
		}
	}
}

func proved(t *testing.T, l []string, i, j int) {
	got, ok := digest.Prove(l, i, j)
	if i < 0 || i > j || j > len(l) {
		if ok || len(got) != 0 {
			t.Errorf("Prove of %d strings, %d, %d = %s, %v", len(l), i, j, digits(got...), ok)
		}
		return
	}
	if want := slices.Concat(modelSums(l, 0, i), modelSums(l, j, len(l))); !ok || !slices.Equal(got, want) {
		t.Errorf("Prove of %d strings, %d, %d = %s, %v, want %s", len(l), i, j, digits(got...), ok, digits(want...))
	}
}

// TestBlocks: the example of the words, by what Prove and Grow return for the lists.
func TestBlocks(t *testing.T) {
	l := names(8)
	leaf := func(k int) string { return digest.Of("\x03" + l[k]) }
	two := func(k int) string { return digest.Of("\x04" + leaf(k) + leaf(k+1)) }
	four := func(k int) string { return digest.Of("\x04" + two(k) + two(k+2)) }
	for _, x := range []struct {
		i, j int
		want []string
	}{
		{6, 8, []string{four(0), two(4)}}, {0, 3, []string{leaf(3), four(4)}}, {0, 8, nil}, {5, 5, []string{four(0), leaf(4), leaf(5), two(6)}},
	} {
		if got, ok := digest.Prove(l, x.i, x.j); !ok || !slices.Equal(got, x.want) {
			t.Errorf("Prove of 8 strings, %d, %d = %s, %v", x.i, x.j, digits(got...), ok)
		}
	}
	if got, ok := digest.Grow(l[:5], 5); !ok || !slices.Equal(got, []string{four(0), leaf(4)}) {
		t.Errorf("Grow of 5 strings, 5 = %s, %v", digits(got...), ok)
	}
}

// verified compares Verify with the definition.
func verified(t *testing.T, root string, n, i int, leaves, proof []string) bool {
	t.Helper()
	got := digest.Verify(root, n, i, leaves, proof)
	if want := modelVerify(root, n, i, leaves, proof); got != want {
		t.Errorf("Verify of n %d, i %d, %d leaves, %d elements = %v", n, i, len(leaves), len(proof), got)
	}
	return got
}

// TestVerify: P2.4 and P2.10: what is proved is accepted, and what P2.10 names is refused.
func TestVerify(t *testing.T) {
	for n := range 20 {
		for _, l := range lists(n) {
			for i := range n + 1 {
				for j := i; j <= n; j++ {
					proof, _ := digest.Prove(l, i, j)
					if !verified(t, digest.Root(l), n, i, l[i:j], proof) {
						t.Errorf("Verify refuses what %d strings have from %d to %d", n, i, j)
					}
				}
			}
		}
		l := names(n)
		for i := range n + 1 {
			for j := i; j <= n; j++ {
				refused(t, digest.Root(l), n, i, l[i:j], l)
			}
		}
	}
}

// refused: with other strings, another index or length, or one string less, Verify refuses what it accepts otherwise.
func refused(t *testing.T, root string, n, i int, leaves, l []string) {
	proof, _ := digest.Prove(l, i, i+len(leaves))
	for _, m := range bounds(n) {
		if m != n && verified(t, root, m, i, leaves, proof) {
			t.Errorf("Verify accepts the length %d for %d", m, n)
		}
		// Without leaves, a proof can be that for another index, too: it has then the same blocks, and shows nothing.
		if verified(t, root, n, m, leaves, proof) && m != i && len(leaves) > 0 {
			t.Errorf("Verify accepts the index %d for %d", m, i)
		}
	}
	for k := range leaves {
		for _, wrong := range [][]string{with(leaves, k, "other"), with(leaves, k, ""), with(leaves, k, leaves[k]+"\x00"), without(leaves, k), slices.Insert(slices.Clone(leaves), k, leaves[k])} {
			if verified(t, root, n, i, wrong, proof) {
				t.Errorf("Verify accepts %q for %q", wrong, leaves)
			}
		}
	}
	for _, wrong := range []string{"", root[:7], root + "\x00", digits(root), "\xff\xff\xff\xff\xff\xff\xff\xff", digest.Root(append(slices.Clone(l), "")), modelTop(nil)} {
		if verified(t, wrong, n, i, leaves, proof) {
			t.Errorf("Verify accepts the root %q", wrong)
		}
	}
	for _, wrong := range malformed(proof) {
		if verified(t, root, n, i, leaves, wrong) {
			t.Errorf("Verify accepts the proof %q for %q", wrong, proof)
		}
	}
}

// malformed are proofs that are not the given one: with an element too few or too many, or one that has not 8 bytes, or other ones. Some have the same bytes as the given one, divided elsewhere.
func malformed(proof []string) [][]string {
	out := [][]string{append(slices.Clone(proof), "12345678"), append(slices.Clone(proof), ""), append([]string{"12345678"}, proof...)}
	for k, s := range proof {
		out = append(out, without(proof, k), slices.Insert(slices.Clone(proof), k, s))
		out = append(out, with(proof, k, ""), with(proof, k, s[:7]), with(proof, k, s+"\x00"), with(proof, k, digits(s)))
		b := []byte(s)
		b[k%8] ^= 1
		out = append(out, with(proof, k, string(b)))
		if k > 0 {
			p := proof[k-1]
			out = append(out, with(with(proof, k, p[7:]+s), k-1, p[:7]), with(with(proof, k, s[1:]), k-1, p+s[:1]), with(with(proof, k, ""), k-1, p+s))
			if p != s {
				out = append(out, with(with(proof, k, p), k-1, s))
			}
		}
	}
	return out
}

// TestVerifyLong: P2.4 for some dozens of strings.
func TestVerifyLong(t *testing.T) {
	for _, n := range []int{31, 32, 33, 63, 64, 77} {
		l := names(n)
		for _, i := range []int{0, 1, 15, 16, 30} {
			for _, j := range []int{i, i + 1, (i + n) / 2, n - 1, n} {
				if j >= i {
					refused(t, digest.Root(l), n, i, l[i:j], l)
				}
			}
		}
	}
}

// made is a proof for a list that is too long to be written: the elements are any, and the root follows from them.
func made(n, i int, leaves []string) (string, []string) {
	elements := len(modelBlocks(0, i)) + len(modelBlocks(i+len(leaves), n))
	var proof []string
	for k := range elements {
		proof = append(proof, digest.Of(eight(k)))
	}
	all, _ := modelShown(n, i, leaves, proof)
	return modelRootOf(n, all), proof
}

// TestElements: P2.4 and P2.5: an element that has not 8 bytes is refused, even if the roots follow from it.
func TestElements(t *testing.T) {
	for k := range 3 {
		for size := range 20 {
			proof := with([]string{"element0", "element1", "element2"}, k, anyBytes()[:size])
			shown := []modelBlock{{0, 4, proof[0]}, {4, 1, proof[1]}, {5, 1, modelOf("\x03", "leaf")}, {6, 1, proof[2]}}
			if got := digest.Verify(modelRootOf(7, shown), 7, 5, []string{"leaf"}, proof); got != (size == 8) {
				t.Errorf("Verify with an element %d of %d bytes = %v", k, size, got)
			}
			grown := []modelBlock{{0, 4, proof[0]}, {4, 1, proof[1]}, {5, 1, proof[2]}}
			if got := digest.Extends(modelRootOf(5, grown[:2]), 5, modelRootOf(6, grown), 6, proof); got != (size == 8) {
				t.Errorf("Extends with an element %d of %d bytes = %v", k, size, got)
			}
		}
	}
}

// most is the number of strings that a list has at most.
const most = 1 << 40

// TestVerifyMost: P2.4 and P2.13: lists up to the greatest length, and proofs that are right, but for a greater one.
func TestVerifyMost(t *testing.T) {
	leaves := []string{"a", "b", "c"}
	for _, n := range []int{3, 1000, 1<<39 - 1, 1 << 39, most - 2, most - 1, most} {
		for _, i := range []int{0, 1, 997, 1<<38 + 5, 1<<39 - 2, most - 2, n/2 - 1, n - 4, n - 3, n - 2, n - 1, n} {
			for k := range 4 {
				if i < 0 || i+k > n {
					continue
				}
				root, proof := made(n, i, leaves[:k])
				if !verified(t, root, n, i, leaves[:k], proof) {
					t.Errorf("Verify refuses n %d, i %d, %d leaves", n, i, k)
				}
			}
		}
	}
	for _, i := range []int{0, 1<<38 + 5, most - 1} {
		root, proof := made(most, i, leaves[:1])
		for _, wrong := range malformed(proof) {
			if verified(t, root, most, i, leaves[:1], wrong) {
				t.Errorf("Verify accepts another proof for the greatest length, i %d", i)
			}
		}
	}
	for _, n := range []int{most + 1, most + 2, most + 1<<20, 1 << 41} {
		for _, i := range []int{0, 1, most - 1, n - 1} {
			root, proof := made(n, i, leaves[:1])
			if digest.Verify(root, n, i, leaves[:1], proof) {
				t.Errorf("Verify accepts n %d, i %d", n, i)
			}
		}
	}
}

// TestVerifyBounds: P2.4 and P1: indices and lengths that no list has, also with roots that would follow from them.
func TestVerifyBounds(t *testing.T) {
	for _, n := range bounds(3) {
		for _, i := range bounds(3) {
			for _, leaves := range [][]string{nil, {"a"}, {"a", "b"}, names(70)} {
				verified(t, digest.Root(leaves), n, i, leaves, nil)
				verified(t, digest.Root(nil), n, i, leaves, slices.Repeat([]string{"12345678"}, 41))
				if digest.Verify(modelRootOf(n, nil), n, i, leaves, nil) != (n == 0 && i == 0 && leaves == nil) {
					t.Errorf("Verify of n %d, i %d, %d leaves without blocks", n, i, len(leaves))
				}
			}
		}
	}
	if !digest.Verify(digest.Root(nil), 0, 0, nil, nil) || !digest.Verify(digest.Root(nil), 0, 0, []string{}, []string{}) {
		t.Error("Verify refuses the empty list")
	}
}

// TestGrow: P2.5.
func TestGrow(t *testing.T) {
	for n := range 70 {
		for _, l := range lists(n) {
			for _, m := range bounds(n) {
				got, ok := digest.Grow(l, m)
				if m < 0 || m > n {
					if ok || len(got) != 0 {
						t.Errorf("Grow of %d strings, %d = %s, %v", n, m, digits(got...), ok)
					}
				} else if want := slices.Concat(modelSums(l, 0, m), modelSums(l, m, n)); !ok || !slices.Equal(got, want) {
					t.Errorf("Grow of %d strings, %d = %s, %v, want %s", n, m, digits(got...), ok, digits(want...))
				}
			}
		}
	}
}

// extended compares Extends with the definition.
func extended(t *testing.T, old string, m int, root string, n int, proof []string) bool {
	t.Helper()
	got := digest.Extends(old, m, root, n, proof)
	if want := modelExtends(old, m, root, n, proof); got != want {
		t.Errorf("Extends of m %d, n %d, %d elements = %v", m, n, len(proof), got)
	}
	return got
}

// TestExtends: P2.5 and P2.11, and what is refused.
func TestExtends(t *testing.T) {
	for n := range 40 {
		for _, l := range lists(n) {
			for m := range n + 1 {
				proof, _ := digest.Grow(l, m)
				if !extended(t, digest.Root(l[:m]), m, digest.Root(l), n, proof) {
					t.Errorf("Extends refuses %d strings as the beginning of %d", m, n)
				}
			}
		}
	}
	for _, n := range []int{0, 1, 2, 3, 4, 7, 8, 13, 40} {
		for m := range n + 1 {
			unextended(t, names(n), m)
		}
	}
}

// unextended: what is not the first m strings of l, or not l, is refused.
func unextended(t *testing.T, l []string, m int) {
	n, old, root := len(l), digest.Root(l[:m]), digest.Root(l)
	proof, _ := digest.Grow(l, m)
	for _, k := range bounds(n) {
		if k != m && extended(t, old, k, root, n, proof) {
			t.Errorf("Extends accepts the length %d for %d of %d", k, m, n)
		}
		if k != n && extended(t, old, m, root, k, proof) {
			t.Errorf("Extends accepts the length %d for %d", k, n)
		}
	}
	other := digest.Root(append(slices.Clone(l), "other"))
	for _, wrong := range []string{"", other, old[:7], root[:7], old + "\x00", root + "\x00", digits(old), "12345678", modelTop(nil)} {
		if extended(t, wrong, m, root, n, proof) || extended(t, old, m, wrong, n, proof) {
			t.Errorf("Extends accepts the root %q", wrong)
		}
	}
	if m < n && (extended(t, root, m, old, n, proof) || extended(t, root, n, old, m, proof)) {
		t.Errorf("Extends accepts %d strings as the beginning of %d", n, m)
	}
	if m > 0 && extended(t, digest.Root(with(l[:m], m/2, "other")), m, root, n, proof) {
		t.Errorf("Extends accepts another beginning of %d strings", m)
	}
	for _, wrong := range malformed(proof) {
		if extended(t, old, m, root, n, wrong) {
			t.Errorf("Extends accepts the proof %q for %q", wrong, proof)
		}
	}
}

// TestExtendsMost: P2.5 and P2.13: lists up to the greatest length, and such as are longer.
func TestExtendsMost(t *testing.T) {
	for _, n := range []int{1000, most - 1, most, most + 1, 1 << 41} {
		for _, m := range []int{0, 1, 999, 1<<39 - 1, most - 1, most, n} {
			if m > n {
				continue
			}
			root, proof := made(n, m, nil)
			all, _ := modelShown(n, m, nil, proof)
			old := modelRootOf(m, all[:len(modelBlocks(0, m))])
			if got := digest.Extends(old, m, root, n, proof); got != (n <= most) {
				t.Errorf("Extends of m %d, n %d = %v", m, n, got)
			}
		}
	}
	for _, m := range bounds(2) {
		for _, n := range bounds(2) {
			extended(t, modelRootOf(m, nil), m, modelRootOf(n, nil), n, nil)
		}
	}
}

// TestFew: P2.13, first part: also for the lists with the most blocks.
func TestFew(t *testing.T) {
	greatest := 0
	for _, n := range []int{0, 1, 1000, 1<<39 - 1, 1<<39 + 1<<38 - 1, most - 1<<20, most - 2, most - 1, most} {
		for _, i := range []int{0, 1, n / 2, n/2 - 1, n/2 + 1, n / 3, 1<<39 - 1, 1<<38 - 1, n - 1, n} {
			if i < 0 || i > n {
				continue
			}
			root, proof := made(n, i, nil)
			greatest = max(greatest, len(proof))
			if !digest.Verify(root, n, i, nil, proof) {
				t.Errorf("Verify refuses the %d elements for n %d, i %d", len(proof), n, i)
			}
		}
	}
	if greatest > 120 || greatest < 70 {
		t.Errorf("proofs have up to %d elements", greatest)
	}
	for n := range 70 {
		for i := range n + 1 {
			if proof, ok := digest.Prove(names(n), i, i); !ok || len(proof) > 120 {
				t.Errorf("Prove of %d strings, %d: %d elements, %v", n, i, len(proof), ok)
			}
		}
	}
}

// TestRemain: P2.13, second part: what comes after the end of a list changes none of its blocks.
func TestRemain(t *testing.T) {
	all := names(70)
	for n := range 70 {
		old, _ := digest.Grow(all[:n], n)
		for _, more := range []int{n, n + 1, 70} {
			if proof, ok := digest.Grow(all[:more], n); !ok || !slices.Equal(proof[:len(old)], old) {
				t.Errorf("the blocks of %d strings are others in %d", n, more)
			}
			if proof, ok := digest.Prove(all[:more], n, more); !ok || !slices.Equal(proof, old) {
				t.Errorf("the blocks of %d strings are others before the end of %d", n, more)
			}
		}
	}
}

// TestOwn: R3 and R1: arguments are not changed, results share no memory, and nil is as good as empty.
func TestOwn(t *testing.T) {
	l := names(11)
	before := slices.Clone(l)
	proof, _ := digest.Prove(l, 3, 5)
	grown, _ := digest.Grow(l, 6)
	kept := slices.Clone(proof)
	if !digest.Verify(digest.Root(l), 11, 3, l[3:5], proof) || !digest.Extends(digest.Root(l[:6]), 6, digest.Root(l), 11, grown) {
		t.Error("a proof is refused")
	}
	if !slices.Equal(l, before) || !slices.Equal(proof, kept) {
		t.Error("an argument was changed")
	}
	clear(proof)
	clear(grown)
	if again, _ := digest.Prove(l, 3, 5); !slices.Equal(again, kept) || !slices.Equal(l, before) {
		t.Error("a result shares memory")
	}
	for _, none := range [][]string{nil, {}} {
		if proof, ok := digest.Prove(none, 0, 0); !ok || len(proof) != 0 {
			t.Error("Prove of no strings")
		}
		if proof, ok := digest.Grow(none, 0); !ok || len(proof) != 0 || !digest.Extends(digest.Root(none), 0, digest.Root(nil), 0, none) {
			t.Error("Grow of no strings")
		}
	}
}

// TestLongList: R5: many strings, in one go.
func TestLongList(t *testing.T) {
	l := names(100003)
	root := digest.Root(l)
	for _, i := range []int{0, 1, 65535, 65536, 99999, 100002} {
		proof, ok := digest.Prove(l, i, i+1)
		if !ok || !digest.Verify(root, len(l), i, l[i:i+1], proof) || digest.Verify(root, len(l), i, []string{"other"}, proof) {
			t.Errorf("the string %d of many", i)
		}
	}
	if !digest.Verify(root, len(l), 0, l, nil) {
		t.Error("all of many strings are refused")
	}
	proof, ok := digest.Grow(l, 65537)
	if !ok || !digest.Extends(digest.Root(l[:65537]), 65537, root, len(l), proof) {
		t.Error("the growth to many strings")
	}
}
