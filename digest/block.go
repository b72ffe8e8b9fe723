package digest

// block is neighbours in a list: size strings from the index first on. The size is a power of two that divides first.
type block struct{ first, size int }

// whole returns the block of which b is one half.
func (b block) whole() block {
	return block{b.first - b.first%(2*b.size), 2 * b.size}
}

// blocks yields the blocks from i to j.
func blocks(i, j int) func(yield func(block) bool) {
	return func(yield func(block) bool) {
		for at := i; at < j; {
			b := greatest(at, j)
			if !yield(b) {
				return
			}
			at += b.size
		}
	}
}

// greatest returns the greatest block that begins at i and does not go beyond j; i is less than j.
func greatest(i, j int) block {
	size := 1
	for i%(2*size) == 0 && 2*size <= j-i {
		size *= 2
	}
	return block{i, size}
}

// count returns how many blocks there are from i to j.
func count(i, j int) int {
	n := 0
	for range blocks(i, j) {
		n++
	}
	return n
}

// sums returns the digests of the blocks of l from i to j.
func sums(l []string, i, j int) []string {
	var out []string
	for b := range blocks(i, j) {
		out = append(out, sum(l, b))
	}
	return out
}

// sum returns the digest of the block b of l.
func sum(l []string, b block) string {
	if b.size == 1 {
		return leaf(l[b.first])
	}
	half := b.size / 2
	return pair(sum(l, block{b.first, half}), sum(l, block{b.first + half, half}))
}

func leaf(s string) string {
	return together(leafKind, s)
}

func pair(a, b string) string {
	return together(pairKind, a, b)
}

// node is a block whose digest is known, its strings need not be.
type node struct {
	block block
	sum   string
}

// add puts n behind l, which has the blocks up to n, and lets a block take the place of its two halves. It looks at the end of l alone, as there were no two halves in l before.
func add(l []node, n node) []node {
	for len(l) > 0 && l[len(l)-1].block.whole() == n.block.whole() {
		n = node{n.block.whole(), pair(l[len(l)-1].sum, n.sum)}
		l = l[:len(l)-1]
	}
	return append(l, n)
}

// place puts the blocks from i to j behind l, with their digests in order.
func place(l []node, i, j int, digests []string) []node {
	k := 0
	for b := range blocks(i, j) {
		l = add(l, node{b, digests[k]})
		k++
	}
	return l
}

// top returns the top of l, in which there are no two halves.
func top(l []node) string {
	if len(l) == 0 {
		return together(noneKind)
	}
	out := l[len(l)-1].sum
	for k := len(l) - 2; k >= 0; k-- {
		out = pair(l[k].sum, out)
	}
	return out
}

// rootOf returns the root of a list of n strings that has the blocks of l.
func rootOf(n int, l []node) string {
	return together(rootKind, number(n), top(l))
}
