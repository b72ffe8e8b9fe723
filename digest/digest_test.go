package digest_test

import (
	"strings"
	"testing"

	"quadrivium/digest"
)

// TestOf: P2.1, with the examples of the chapter.
func TestOf(t *testing.T) {
	for _, x := range []struct{ s, want string }{
		{"", "0000000b00000011"}, {"\x00", "000baf88000bee18"}, {"a", "000bafe9000bee79"}, {"\xff", "000bb087000bef17"},
		{"abc", "5f23524d560a899b"}, {"é", "6acf1d895fcbf3b7"}, {anyBytes(), "774c71f7286620a3"}, {strings.Repeat("x", 100000), "303b8fe200d93414"},
	} {
		if got := digits(digest.Of(x.s)); got != x.want {
			t.Errorf("Of(%.40q) = %s, want %s", x.s, got, x.want)
		}
	}
	for _, s := range strs() {
		if got, want := digest.Of(s), modelOf(s); got != want || len(got) != 8 {
			t.Errorf("Of(%.40q) = %s, want %s", s, digits(got), digits(want))
		}
	}
}

// TestChain: P2.1.
func TestChain(t *testing.T) {
	for _, x := range []struct{ before, s, want string }{
		{"", "", "25a3e19205c15f0c"}, {"ab", "c", "0c8d61a96fd0353e"}, {"a", "bc", "4c0951066eb978fe"}, {strings.Repeat("x", 300), "\x00", "6f87d1146a45ae43"},
	} {
		if got := digits(digest.Chain(x.before, x.s)); got != x.want {
			t.Errorf("Chain(%.40q, %q) = %s, want %s", x.before, x.s, got, x.want)
		}
	}
	for _, before := range strs() {
		for _, s := range strs() {
			if got, want := digest.Chain(before, s), modelChain(before, s); got != want {
				t.Errorf("Chain(%.40q, %.40q) = %s, want %s", before, s, digits(got), digits(want))
			}
		}
	}
}

// TestMark: P2.2.
func TestMark(t *testing.T) {
	for _, x := range []struct{ key, msg, want string }{
		{"", "", "5f84b6400daaceba"}, {"k", "m", "09a0dd3a0c19e4e1"}, {"key", "", "577de35847e81bed"}, {strings.Repeat("k", 300), "\xff", "3358c3e52070ae87"},
	} {
		if got := digits(digest.Mark(x.key, x.msg)); got != x.want {
			t.Errorf("Mark(%.40q, %q) = %s, want %s", x.key, x.msg, got, x.want)
		}
	}
	for _, key := range strs() {
		for _, msg := range strs() {
			if got, want := digest.Mark(key, msg), modelMark(key, msg); got != want {
				t.Errorf("Mark(%.40q, %.40q) = %s, want %s", key, msg, digits(got), digits(want))
			}
		}
	}
}

// TestCheck: P2.2: the mark of the key and the message alone, and never an empty key.
func TestCheck(t *testing.T) {
	for _, key := range strs() {
		for _, msg := range strs() {
			mark := digest.Mark(key, msg)
			if got := digest.Check(key, msg, mark); got != (key != "") {
				t.Errorf("Check(%.40q, %.40q) of its mark = %v", key, msg, got)
			}
			for name, wrong := range map[string]bool{
				"another key":     digest.Check(key+"\x00", msg, mark),
				"another message": digest.Check(key, msg+"\x00", mark),
				"a shorter mark":  digest.Check(key, msg, mark[:7]),
				"a longer mark":   digest.Check(key, msg, mark+"\x00"),
				"no mark":         digest.Check(key, msg, ""),
				"its digits":      digest.Check(key, msg, digits(mark)),
				"a chain":         digest.Check(key, msg, digest.Chain(key, msg)),
			} {
				if wrong {
					t.Errorf("Check(%.40q, %.40q) accepts %s", key, msg, name)
				}
			}
		}
	}
	for k := range 8 {
		mark := []byte(digest.Mark("key", "msg"))
		mark[k]++
		if digest.Check("key", "msg", string(mark)) {
			t.Errorf("Check accepts a mark with another byte %d", k)
		}
	}
	if digest.Check("ke", "ymsg", digest.Mark("key", "msg")) || digest.Check("msg", "key", digest.Mark("key", "msg")) {
		t.Error("Check accepts a mark of a key that ends elsewhere, or is the message")
	}
}

// TestOneByte: P2.9, for each byte in some places of strings of some lengths.
func TestOneByte(t *testing.T) {
	for _, n := range []int{1, 2, 3, 8, 100, 5000} {
		b := []byte(strings.Repeat("q\x00\xff", n))[:n]
		for _, at := range []int{0, 1, n / 2, n - 1} {
			if at >= n {
				continue
			}
			old, seen := b[at], map[string]bool{}
			for c := range 256 {
				b[at] = byte(c)
				seen[digest.Of(string(b))] = true
			}
			b[at] = old
			if len(seen) != 256 {
				t.Errorf("%d bytes, of which the one with the index %d differs, have %d digests", n, at, len(seen))
			}
		}
	}
}

// TestAgain: R4: the same call returns the same.
func TestAgain(t *testing.T) {
	for _, s := range strs() {
		if digest.Of(s) != digest.Of(s) || digest.Chain(s, s) != digest.Chain(s, s) || digest.Mark(s, s) != digest.Mark(s, s) {
			t.Errorf("%.40q has two digests, chains or marks", s)
		}
	}
}
