package digest_test

import (
	"encoding/binary"
	"encoding/hex"
	"fmt"
	"slices"
	"strings"
)

// The model follows the chapter's section 'Words' to the letter; where there is a choice, it takes another way than the program.

// modelOf adds up what each byte contributes, from the last one on.
func modelOf(parts ...string) string {
	s := strings.Join(parts, "")
	var b []byte
	for _, m := range []struct{ first, factor, prime uint64 }{{11, 69621, 2147483647}, {17, 45991, 2147483629}} {
		sum, weight := uint64(0), uint64(1)
		for k := len(s) - 1; k >= 0; k-- {
			sum = (sum + (uint64(s[k])+1)*weight) % m.prime
			weight = weight * m.factor % m.prime
		}
		b = binary.BigEndian.AppendUint32(b, uint32((sum+m.first*weight)%m.prime))
	}
	return string(b)
}

// eight is a number, or a length, as it is digested.
func eight(n int) string {
	return string(binary.BigEndian.AppendUint64(nil, uint64(n)))
}

func modelPair(a, b string) string {
	return modelOf("\x04", a, b)
}

func modelChain(before, s string) string {
	return modelOf("\x01", eight(len(before)), before, s)
}

func modelMark(key, msg string) string {
	return modelOf("\x02", eight(len(key)), key, msg, key)
}

type modelBlock struct {
	first, size int
	sum         string
}

// modelBlocks are the blocks from i to j, without their digests.
func modelBlocks(i, j int) []modelBlock {
	var out []modelBlock
	for i < j {
		size := 1 << 40
		for i%size != 0 || i+size > j {
			size /= 2
		}
		out = append(out, modelBlock{i, size, ""})
		i += size
	}
	return out
}

func modelSum(l []string) string {
	if len(l) == 1 {
		return modelOf("\x03", l[0])
	}
	return modelPair(modelSum(l[:len(l)/2]), modelSum(l[len(l)/2:]))
}

// modelSums are the digests of the blocks of l from i to j.
func modelSums(l []string, i, j int) []string {
	var out []string
	for _, b := range modelBlocks(i, j) {
		out = append(out, modelSum(l[b.first:b.first+b.size]))
	}
	return out
}

// modelTop lets blocks take the place of their halves from the left on, until there are none.
func modelTop(l []modelBlock) string {
	l = slices.Clone(l)
	for k := 0; k+1 < len(l); k++ {
		if a, b := l[k], l[k+1]; a.size == b.size && a.first%(2*a.size) == 0 {
			l = slices.Replace(l, k, k+2, modelBlock{a.first, 2 * a.size, modelPair(a.sum, b.sum)})
			k = -1
		}
	}
	if len(l) == 0 {
		return modelOf("\x05")
	}
	top := l[len(l)-1].sum
	for k := len(l) - 2; k >= 0; k-- {
		top = modelPair(l[k].sum, top)
	}
	return top
}

func modelRootOf(n int, l []modelBlock) string {
	return modelOf("\x06", eight(n), modelTop(l))
}

func modelRoot(l []string) string {
	all := modelBlocks(0, len(l))
	for k, b := range all {
		all[k].sum = modelSum(l[b.first : b.first+b.size])
	}
	return modelRootOf(len(l), all)
}

// modelShown are the blocks from 0 to i, the leaves, and the blocks behind them, with the elements of the proof; false, if these are not as many, or one has not 8 bytes.
func modelShown(n, i int, leaves, proof []string) ([]modelBlock, bool) {
	j := i + len(leaves)
	before, after := modelBlocks(0, i), modelBlocks(j, n)
	if len(proof) != len(before)+len(after) || slices.ContainsFunc(proof, func(s string) bool { return len(s) != 8 }) {
		return nil, false
	}
	all := slices.Concat(before, after)
	for k := range all {
		all[k].sum = proof[k]
	}
	for k, s := range leaves {
		all = slices.Insert(all, len(before)+k, modelBlock{i + k, 1, modelOf("\x03", s)})
	}
	return all, true
}

func modelVerify(root string, n, i int, leaves, proof []string) bool {
	if n > 1<<40 || n < 0 || i < 0 || i > n || i+len(leaves) > n {
		return false
	}
	all, ok := modelShown(n, i, leaves, proof)
	return ok && root == modelRootOf(n, all)
}

func modelExtends(old string, m int, root string, n int, proof []string) bool {
	if m < 0 || m > n || n > 1<<40 {
		return false
	}
	all, ok := modelShown(n, m, nil, proof)
	return ok && old == modelRootOf(m, all[:len(modelBlocks(0, m))]) && root == modelRootOf(n, all)
}

func modelSorted(l []string) bool {
	return slices.IsSorted(l) && len(slices.Compact(slices.Clone(l))) == len(l)
}

// between are the strings of l that are not less than from, and less than to, in order.
func between(l []string, from, to string) []string {
	var out []string
	for _, s := range l {
		if from <= s && s < to {
			out = append(out, s)
		}
	}
	return out
}

func modelWithin(root string, n int, from, to string, i int, leaves, proof []string) ([]string, bool) {
	if !modelVerify(root, n, i, leaves, proof) || !modelSorted(leaves) {
		return nil, false
	}
	first := i == 0 || len(leaves) > 0 && leaves[0] < from
	last := i+len(leaves) == n || len(leaves) > 0 && leaves[len(leaves)-1] >= to
	if !first || !last {
		return nil, false
	}
	return between(leaves, from, to), true
}

// anyBytes has every byte once.
func anyBytes() string {
	b := make([]byte, 256)
	for k := range b {
		b[k] = byte(k)
	}
	return string(b)
}

// strs are short and long strings, and such as look like what is digested.
func strs() []string {
	return []string{
		"", "\x00", "\x00\x00", "a", "b", "ab", "abc", "é", "\xff", "\xff\xff", "\x01", "\x03a", "\x04", "\x05", "\x06", eight(0), eight(1) + "a",
		anyBytes(), strings.Repeat(anyBytes(), 40), strings.Repeat("\x00", 1000), strings.Repeat("\xff", 5000), strings.Repeat("x", 100000),
	}
}

// names are n different strings, sorted.
func names(n int) []string {
	var l []string
	for k := range n {
		l = append(l, fmt.Sprintf("name %04d", k))
	}
	return l
}

// lists are lists of n strings: all different, all equal, all empty, and with some that stand twice.
func lists(n int) [][]string {
	all := [][]string{names(n), slices.Repeat([]string{"same"}, n), slices.Repeat([]string{""}, n), nil}
	for k := range n {
		all[3] = append(all[3], strs()[k*k%17])
	}
	return all
}

// digits writes strings in hexadecimal.
func digits(l ...string) string {
	return hex.EncodeToString([]byte(strings.Join(l, "")))
}

// without is l without its element k; with is l with s in its place; all of them are new.
func without(l []string, k int) []string {
	return slices.Delete(slices.Clone(l), k, k+1)
}

func with(l []string, k int, s string) []string {
	out := slices.Clone(l)
	out[k] = s
	return out
}
