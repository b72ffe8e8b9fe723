package digest

// Sorted reports whether l is sorted and has no string twice.
func Sorted(l []string) bool {
	for k := 1; k < len(l); k++ {
		if l[k-1] >= l[k] {
			return false
		}
	}
	return true
}

// Around returns the strings of l between from and to with one more on each side, where there is one, the index of the first of them, and a proof of them; false, if l is not sorted.
func Around(l []string, from, to string) (int, []string, []string, bool) {
	if !Sorted(l) {
		return 0, nil, nil, false
	}
	a := least(l, from)
	b := max(a, least(l, to))
	i, j := max(a-1, 0), min(b+1, len(l))
	proof, _ := Prove(l, i, j)
	return i, append([]string(nil), l[i:j]...), proof, true
}

// Within returns the strings between from and to of the sorted list of n strings with this root; false, if the leaves and the proof do not show that these are all of them.
func Within(root string, n int, from, to string, i int, leaves, proof []string) ([]string, bool) {
	if !Verify(root, n, i, leaves, proof) || !Sorted(leaves) {
		return nil, false
	}
	last := len(leaves) - 1
	if i > 0 && (last < 0 || leaves[0] >= from) {
		return nil, false
	}
	if i+len(leaves) < n && (last < 0 || leaves[last] < to) {
		return nil, false
	}
	var out []string
	for _, s := range leaves {
		if s >= from && s < to {
			out = append(out, s)
		}
	}
	return out, true
}

// least returns the index of the first string of l that is not less than s, or the number of strings, if there is none.
func least(l []string, s string) int {
	for k, v := range l {
		if v >= s {
			return k
		}
	}
	return len(l)
}
