package digest

// longest is how many strings a list has at most of which a proof is accepted.
const longest = 1 << 40

// Root returns the root of l.
func Root(l []string) string {
	n := len(l)
	return rootOf(n, place(nil, 0, n, sums(l, 0, n)))
}

// Prove returns a proof that l has, from the index i on, its strings before j.
func Prove(l []string, i, j int) ([]string, bool) {
	if i < 0 || i > j || j > len(l) {
		return nil, false
	}
	return append(sums(l, 0, i), sums(l, j, len(l))...), true
}

// Verify reports whether the proof shows that the list of n strings with this root has the leaves from the index i on.
func Verify(root string, n, i int, leaves, proof []string) bool {
	if n < 0 || n > longest || i < 0 || len(leaves) > n-i {
		return false
	}
	j := i + len(leaves)
	before, after, ok := divide(proof, i, j, n)
	if !ok {
		return false
	}
	l := place(nil, 0, i, before)
	for k, s := range leaves {
		l = add(l, node{block{i + k, 1}, leaf(s)})
	}
	l = place(l, j, n, after)
	return root == rootOf(n, l)
}

// Grow returns a proof that the first m strings of l are its beginning.
func Grow(l []string, m int) ([]string, bool) {
	return Prove(l, m, m)
}

// Extends reports whether the proof shows that the list of m strings with the root old is the beginning of that of n strings with this root.
func Extends(old string, m int, root string, n int, proof []string) bool {
	if m < 0 || m > n || n > longest {
		return false
	}
	before, after, ok := divide(proof, m, m, n)
	if !ok {
		return false
	}
	l := place(nil, 0, m, before)
	if old != rootOf(m, l) {
		return false
	}
	l = place(l, m, n, after)
	return root == rootOf(n, l)
}

// divide returns the digests of the blocks from 0 to i, and of those from j to n, if the proof has just these.
func divide(proof []string, i, j, n int) ([]string, []string, bool) {
	before := count(0, i)
	if len(proof) != before+count(j, n) {
		return nil, nil, false
	}
	for _, s := range proof {
		if len(s) != 8 {
			return nil, nil, false
		}
	}
	return proof[:before], proof[before:], true
}
