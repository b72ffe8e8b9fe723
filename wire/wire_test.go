package wire_test

import (
	"math"
	"slices"
	"strconv"
	"strings"
	"testing"

	"quadrivium/wire"
)

// anyBytes has every byte once, so it is no UTF-8, and holds all the bytes that have a meaning in a serialization.
func anyBytes() string {
	b := make([]byte, 256)
	for i := range b {
		b[i] = byte(i)
	}
	return string(b)
}

// numbers are ordinary integers and those at the bounds of type int.
func numbers() []int {
	l := []int{0, 1, -1, 7, 250, -250, math.MaxInt, math.MinInt, math.MaxInt - 1, math.MinInt + 1}
	for n := 10; n < math.MaxInt/10; n *= 10 {
		l = append(l, n, n-1, -n, 1-n)
	}
	return l
}

// strs are ordinary strings, and strings that look like serializations themselves.
func strs() []string {
	return []string{"", "a", "ab", "4:a:b;", "[", "]", "[]", "[1;]", "1;", "0:", ";", ":", "-", "\x00", "\xff\xfe", "é", "\n", anyBytes(), strings.Repeat("x", 9), strings.Repeat("x", 10), strings.Repeat("]", 12345)}
}

func intLists() [][]int {
	return [][]int{nil, {0}, {1, -2}, {-1, -1, -1}, {math.MinInt, math.MaxInt}, numbers()}
}

func textLists() [][]string {
	return [][]string{nil, {""}, {"", ""}, {"", "a"}, {"a", ""}, {"]"}, {"[1;]", "0:"}, {"1:a", "]["}, strs()}
}

// TestInt: P1.1.
func TestInt(t *testing.T) {
	for _, x := range []struct {
		n    int
		want string
	}{
		{0, "0;"}, {-1, "-1;"}, {250, "250;"}, {1, "1;"}, {10, "10;"}, {-10, "-10;"}, {100000, "100000;"},
		{math.MaxInt64, "9223372036854775807;"}, {math.MinInt64, "-9223372036854775808;"},
	} {
		if got := wire.Int(x.n); got != x.want {
			t.Errorf("Int(%d) = %q, want %q", x.n, got, x.want)
		}
	}
}

// TestText: P1.1. The number before the string is one of bytes, not of runes.
func TestText(t *testing.T) {
	for _, x := range []struct{ s, want string }{
		{"ab", "2:ab"}, {"", "0:"}, {"4:a:b;", "6:4:a:b;"}, {"é", "2:é"}, {"\xff", "1:\xff"}, {"\x00\x00", "2:\x00\x00"},
		{anyBytes(), "256:" + anyBytes()}, {strings.Repeat("x", 1000), "1000:" + strings.Repeat("x", 1000)},
	} {
		if got := wire.Text(x.s); got != x.want {
			t.Errorf("Text(%q) = %q, want %q", x.s, got, x.want)
		}
	}
}

// TestInts: P1.1, and R1 and R3 for it.
func TestInts(t *testing.T) {
	for _, x := range []struct {
		l    []int
		want string
	}{
		{nil, "[]"}, {[]int{}, "[]"}, {[]int{0}, "[0;]"}, {[]int{1, -2}, "[1;-2;]"}, {[]int{3, 2, 3}, "[3;2;3;]"},
		{[]int{math.MinInt64, math.MaxInt64}, "[-9223372036854775808;9223372036854775807;]"},
	} {
		before := slices.Clone(x.l)
		if got := wire.Ints(x.l); got != x.want {
			t.Errorf("Ints(%v) = %q, want %q", x.l, got, x.want)
		}
		if !slices.Equal(before, x.l) {
			t.Errorf("Ints(%v) changed its argument to %v", before, x.l)
		}
	}
}

// TestTexts: P1.1, and R1 and R3 for it.
func TestTexts(t *testing.T) {
	for _, x := range []struct {
		l    []string
		want string
	}{
		{nil, "[]"}, {[]string{}, "[]"}, {[]string{""}, "[0:]"}, {[]string{"", "a"}, "[0:1:a]"}, {[]string{"b", "a", "b"}, "[1:b1:a1:b]"},
		{[]string{"]", "[1;]"}, "[1:]4:[1;]]"}, {[]string{"\xff", anyBytes()}, "[1:\xff256:" + anyBytes() + "]"},
	} {
		before := slices.Clone(x.l)
		if got := wire.Texts(x.l); got != x.want {
			t.Errorf("Texts(%q) = %q, want %q", x.l, got, x.want)
		}
		if !slices.Equal(before, x.l) {
			t.Errorf("Texts(%q) changed its argument to %q", before, x.l)
		}
	}
}

// TestNew: P1.2 of a reader that has decoded nothing yet.
func TestNew(t *testing.T) {
	for _, s := range append(strs(), "01;", "3:ab") {
		if r := wire.New(s); r == nil || r.Bad() || r.Left() != len(s) {
			t.Errorf("New(%q) is bad or has not %d bytes left", s, len(s))
		}
	}
}

// TestLeft: P1.2, the example of the chapter, and a reader behind its last byte, which is not bad.
func TestLeft(t *testing.T) {
	r := wire.New("[1;-2;]3;")
	if l := r.Ints(); !slices.Equal(l, []int{1, -2}) || r.Left() != 2 || r.Bad() {
		t.Errorf("Ints = %v, %d left, bad %v", l, r.Left(), r.Bad())
	}
	if n := r.Int(); n != 3 || r.Left() != 0 || r.Bad() {
		t.Errorf("Int = %d, %d left, bad %v", n, r.Left(), r.Bad())
	}
	if n := r.Int(); n != 0 || r.Left() != 0 || !r.Bad() {
		t.Errorf("behind the end: Int = %d, %d left, bad %v", n, r.Left(), r.Bad())
	}
}

// dead reports whether r is bad and gives nothing, whatever it is asked.
func dead(r *wire.Reader) bool {
	for range 2 {
		if !r.Bad() || r.Left() != 0 || r.Int() != 0 || r.Text() != "" || len(r.Ints()) != 0 || len(r.Texts()) != 0 {
			return false
		}
	}
	return true
}

// TestStaysBad: P1.2 and P1.3. What follows malformed input would decode well, and so would what was asked of another kind.
func TestStaysBad(t *testing.T) {
	for _, s := range []string{"01;7;", "x7;", "-;7;", "7:abcdefg7;", "[1;2:7;]7;", "[7;", "+7;7;", " 7;", "0:7;[][]"} {
		r := wire.New(s)
		if n := r.Int(); n != 0 {
			t.Errorf("Int of %q = %d", s, n)
		}
		if !dead(r) {
			t.Errorf("the reader of %q lives after malformed input", s)
		}
	}
	r := wire.New("5;1:a[][1:b]")
	if s := r.Text(); s != "" || !dead(r) {
		t.Errorf("Text of an integer = %q, or the reader lives", s)
	}
	other := wire.New("5;")
	if other.Int() != 5 || other.Bad() {
		t.Error("a bad reader spoiled another one")
	}
}

// TestMalformed: P1.3, each malformation by name.
func TestMalformed(t *testing.T) {
	numbers := []string{
		"", "01", "00", "007", "-01", "+1", "+0", "-0", "-00", "-", "--1", "+-1", "1-", " 1", "1 ", "1.0", "1e3", "1_000", "0x1", "a", "\x00", "１",
		"9223372036854775808", "-9223372036854775809", "18446744073709551616", "99999999999999999999", "100000000000000000000000000000000000000",
		"00000000000000000000000000000001", strings.Repeat("9", 5000), "-" + strings.Repeat("1", 5000), strings.Repeat("0", 5000),
	}
	ints := []string{"1", "-1", "1:", "1,", "1\x00;", "[1;]", "[]", ":", "]"}
	texts := []string{"", "1", "2ab", "3:ab", "1:", "-1:", "-1:a", "1;a", ":", "[1:a]", "99999999999999999999:a", "9223372036854775807:a", "-9223372036854775808:a"}
	lists := []string{"", "]", "[", "[[", "[[]", "[[]]", "][", "(1;)", "0;", "0:", ";", ":", " []", "[ ]", "[,]", "\x00[]"}
	intLists := slices.Concat(lists, []string{"[1;", "[1]", "[1;2]", "[1;,2;]", "[0:]", "[1;01;]", "[1;-0;]", "[1;9223372036854775808;]", "1;2;", "1;]"})
	textLists := slices.Concat(lists, []string{"[1:a", "[2:a]", "[1;]", "[0:1:]", "[0:01:a]", "[1:a,1:b]", "[0:-1:]", "[0:99999999999999999999:]", "1:a1:b", "1:a]"})
	for _, f := range numbers {
		ints, texts = append(ints, f+";"), append(texts, f+":", f+":"+strings.Repeat("9", 2))
		intLists, textLists = append(intLists, "["+f+";]", "[1;"+f+";2;]"), append(textLists, "["+f+":]", "[1:a"+f+":]")
	}
	malformed(t, "Int", ints, (*wire.Reader).Int)
	malformed(t, "Text", texts, (*wire.Reader).Text)
	malformed(t, "Ints", intLists, (*wire.Reader).Ints)
	malformed(t, "Texts", textLists, (*wire.Reader).Texts)
}

// nothing reports whether v is the zero value of a call (R1: an empty list is one).
func nothing(v any) bool {
	switch x := v.(type) {
	case int:
		return x == 0
	case string:
		return x == ""
	case []int:
		return len(x) == 0
	case []string:
		return len(x) == 0
	}
	return false
}

func malformed[T any](t *testing.T, name string, l []string, decode func(*wire.Reader) T) {
	for _, s := range l {
		r := wire.New(s)
		if v := decode(r); !nothing(v) || !dead(r) {
			t.Errorf("%s of %.40q = %v, or the reader lives", name, s, v)
		}
	}
}

// alphabet has all bytes with a meaning in a serialization, the sign that none has, and a byte without any.
const alphabet = "[]:;-+01a"

const most = 6

// words calls f with each string of at most room bytes of the alphabet that begins with s.
func words(s string, room int, f func(string)) {
	f(s)
	if room > 0 {
		for i := range len(alphabet) {
			words(s+alphabet[i:i+1], room-1, f)
		}
	}
}

// listsOf returns the lists whose serialization has at most most bytes, by their serialization.
func listsOf[T any](elements map[string]T) map[string][]T {
	all := map[string][]T{}
	var extend func(s string, l []T)
	extend = func(s string, l []T) {
		all["["+s+"]"] = l
		for e, v := range elements {
			if len(s)+len(e)+2 <= most {
				extend(s+e, append(slices.Clip(l), v))
			}
		}
	}
	extend("", nil)
	return all
}

// TestDecodeAll: P1.3 for every short string: the value whose serialization begins there, and bad where none does.
func TestDecodeAll(t *testing.T) {
	ints, texts := map[string]int{}, map[string]string{}
	for n := -9999; n <= 99999; n++ {
		ints[strconv.Itoa(n)+";"] = n
	}
	words("", most-2, func(s string) { texts[strconv.Itoa(len(s))+":"+s] = s })
	intLists, textLists := listsOf(ints), listsOf(texts)
	words("", most, func(s string) {
		decoded(t, "Int", s, ints, (*wire.Reader).Int, func(a, b int) bool { return a == b })
		decoded(t, "Text", s, texts, (*wire.Reader).Text, func(a, b string) bool { return a == b })
		decoded(t, "Ints", s, intLists, (*wire.Reader).Ints, slices.Equal)
		decoded(t, "Texts", s, textLists, (*wire.Reader).Texts, slices.Equal)
	})
}

func decoded[T any](t *testing.T, name, s string, all map[string]T, decode func(*wire.Reader) T, equal func(a, b T) bool) {
	var want T
	left, bad := 0, true
	for i := range len(s) + 1 {
		if v, ok := all[s[:i]]; ok {
			want, left, bad = v, len(s)-i, false
		}
	}
	r := wire.New(s)
	if got := decode(r); !equal(got, want) || r.Left() != left || r.Bad() != bad {
		t.Errorf("%s of %q = %v, %d left, bad %v; want %v, %d left, bad %v", name, s, got, r.Left(), r.Bad(), want, left, bad)
	}
}

// TestNil: P1.4 and P1 of a nil reader.
func TestNil(t *testing.T) {
	var r *wire.Reader
	if !dead(r) {
		t.Error("a nil reader lives")
	}
}

// TestZero: P1.4: each call of a zero Reader answers as that of New of the empty string.
func TestZero(t *testing.T) {
	calls := []func(*wire.Reader) any{
		func(r *wire.Reader) any { return r.Left() },
		func(r *wire.Reader) any { return r.Bad() },
		func(r *wire.Reader) any { return r.Int() },
		func(r *wire.Reader) any { return r.Text() },
		func(r *wire.Reader) any { return len(r.Ints()) },
		func(r *wire.Reader) any { return len(r.Texts()) },
	}
	for i, call := range calls {
		zero, fresh := &wire.Reader{}, wire.New("")
		if a, b := call(zero), call(fresh); a != b || zero.Bad() != fresh.Bad() || zero.Left() != fresh.Left() {
			t.Errorf("call %d: a zero reader gives %v, one of the empty string %v", i, a, b)
		}
	}
	if r := (&wire.Reader{}); r.Bad() || r.Left() != 0 || r.Int() != 0 || !dead(r) {
		t.Error("a zero reader is not at its end")
	}
}

// TestConcatenation: P1.5, first part.
func TestConcatenation(t *testing.T) {
	var b strings.Builder
	left := []int{}
	put := func(s string) { b.WriteString(s); left = append(left, b.Len()) }
	for _, n := range numbers() {
		put(wire.Int(n))
	}
	for _, s := range strs() {
		put(wire.Text(s))
	}
	for i := range intLists() {
		put(wire.Ints(intLists()[i]))
	}
	for i := range textLists() {
		put(wire.Texts(textLists()[i]))
	}
	r := wire.New(b.String())
	check := func(right bool) {
		t.Helper()
		if !right || r.Bad() || r.Left() != b.Len()-left[0] {
			t.Fatalf("wrong before the byte %d: %d left, bad %v", left[0], r.Left(), r.Bad())
		}
		left = left[1:]
	}
	for _, n := range numbers() {
		check(r.Int() == n)
	}
	for _, s := range strs() {
		check(r.Text() == s)
	}
	for _, l := range intLists() {
		check(slices.Equal(r.Ints(), l))
	}
	for _, l := range textLists() {
		check(slices.Equal(r.Texts(), l))
	}
	if r.Left() != 0 || r.Bad() {
		t.Error("something is left")
	}
}

// TestPrefix: P1.5, second part: none of different values has an equal serialization, or one that the other begins with.
func TestPrefix(t *testing.T) {
	for name, l := range map[string][]string{
		"Int": each(numbers(), wire.Int), "Text": each(strs(), wire.Text),
		"Ints": each(intLists(), wire.Ints), "Texts": each(textLists(), wire.Texts),
	} {
		for i, a := range l {
			for j, b := range l {
				if i != j && strings.HasPrefix(a, b) {
					t.Errorf("%s: %.40q begins with %.40q", name, a, b)
				}
			}
		}
	}
}

func each[T any](l []T, f func(T) string) []string {
	var out []string
	for _, v := range l {
		out = append(out, f(v))
	}
	return out
}

// TestTruncated: P1.6: whatever is removed from the end, nothing is decoded.
func TestTruncated(t *testing.T) {
	truncated(t, "Int", each(numbers(), wire.Int), (*wire.Reader).Int)
	truncated(t, "Text", each(strs(), wire.Text), (*wire.Reader).Text)
	truncated(t, "Ints", each(intLists(), wire.Ints), (*wire.Reader).Ints)
	truncated(t, "Texts", each(textLists()[:7], wire.Texts), (*wire.Reader).Texts)
}

func truncated[T any](t *testing.T, name string, l []string, decode func(*wire.Reader) T) {
	for _, s := range l {
		for i := range len(s) {
			r := wire.New(s[:i])
			if v := decode(r); !nothing(v) || !dead(r) {
				t.Errorf("%s of the first %d bytes of %.40q = %v, or the reader lives", name, i, s, v)
			}
		}
	}
}

// TestOwn: R3 and R4: a result is the caller's own, and readers of one string do not meet.
func TestOwn(t *testing.T) {
	s := "[1;2;][1:a1:b]"
	a, b := wire.New(s), wire.New(s)
	l := a.Ints()
	l[0] = 9
	if again := b.Ints(); !slices.Equal(again, []int{1, 2}) {
		t.Errorf("a second reader gives %v", again)
	}
	m := a.Texts()
	m[0] = "x"
	if again := b.Texts(); !slices.Equal(again, []string{"a", "b"}) {
		t.Errorf("a second reader gives %q", again)
	}
}

// TestLong: R5: long lists and strings, in one go.
func TestLong(t *testing.T) {
	l := make([]int, 200000)
	for i := range l {
		l[i] = i - len(l)/2
	}
	s := strings.Repeat("[1;", 1<<20)
	r := wire.New(wire.Ints(l) + wire.Text(s) + wire.Texts([]string{s, s}))
	if !slices.Equal(r.Ints(), l) || r.Text() != s || !slices.Equal(r.Texts(), []string{s, s}) || r.Left() != 0 || r.Bad() {
		t.Error("long values come back changed")
	}
}
