package course_test

import (
	"math"
	"slices"
	"strings"
	"testing"

	"quadrivium/api"
	"quadrivium/course"
)

// TestEncode: P7.7.
func TestEncode(t *testing.T) {
	for i, x := range []struct {
		l    []api.Offer
		want string
	}{
		{nil, "0;"}, {[]api.Offer{}, "0;"}, {make([]api.Offer, 1), "1;0:0;0;[][]"}, {make([]api.Offer, 2), "2;0:0;0;[][]0:0;0;[][]"}, {example(), "4;2:A15;30;[1;2;][]2:B16;10;[2;][2:A1]2:B23;0;[][]2:C110;200;[40;][2:B12:B2]"},
		{[]api.Offer{of("é", math.MinInt, math.MaxInt, []int{-1, -1}, "", "[", "\xff")}, "1;2:é-9223372036854775808;9223372036854775807;[-1;-1;][0:1:[1:\xff]"}, {[]api.Offer{plain("B"), plain("A", "A")}, "2;1:B5;30;[1;][]1:A5;30;[1;][1:A]"},
	} {
		if got := course.Encode(x.l); got != x.want {
			t.Errorf("%d: Encode = %q, want %q", i, got, x.want)
		}
	}
}

// TestEncodeAll: P7.7 and P7.9 for all small lists, and for those of the lists: Decode undoes Encode, also if they are not right.
func TestEncodeAll(t *testing.T) {
	for _, l := range slices.Concat(smallLists(), rightCatalogs(), wrongLists()) {
		s := course.Encode(l)
		if s != modelEncode(l) {
			t.Errorf("Encode of %s = %q", short(l), s)
		}
		if got, err := course.Decode(s); err != api.OK || !sameAll(got, l) {
			t.Errorf("Decode of %q = %s, %d", s, short(got), err)
		}
	}
}

// TestDecode: P7.7: strings that are no encoding, some of which say the same as one.
func TestDecode(t *testing.T) {
	for _, s := range []string{
		"", ";", "0", "00;", "+0;", "-0;", " 0;", "0; ", "0;0;", "0;;", "0;\n", "-1;", "-2;", "01;0:0;0;[][]", "+1;0:0;0;[][]", "1;", "1;0:", "2;0:0;0;[][]", "0;0:0;0;[][]", "-1;0:0;0;[][]", "1;0:0;0;[][]0:0;0;[][]", "9223372036854775807;", "9223372036854775807;0:0;0;[][]", "-9223372036854775808;", "9223372036854775808;", "18446744073709551617;0:0;0;[][]",
		"1;00:0;0;[][]", "1;0:00;0;[][]", "1;0:0;-0;[][]", "1;0:0;+1;[][]", "1;0:0;0;[01;][]", "1;0:0;0;[][01:A]", "1;0:0;0;[ ][]", "1;0:0;0;[][] ", "1;0:0;0;[1][]", "1;0:0;0;[1,][]", "1;0:0;0;[1;2:A][]", "1;0:0;0;[][1;]", "1;0:0;0;[]", "1;0:0;0;[][", "1;0:0;0;[]]", "1;0:0;[][]", "1;0:0;0;0;[][]", "1;0:0;0;[][][]", "1;0;0;0;[][]", "1;2:A0;0;[][]", "1;1:AA0;0;[][]", "1;-1:0;0;[][]", "1;0:9223372036854775808;0;[][]", "1;0:0;-9223372036854775809;[][]", "1;9223372036854775807:0;0;[][]", "1:0:0;0;[][]", "[]", "[0:0;0;[][]]", "A1", "\x00", "\xff",
	} {
		if got, err := course.Decode(s); err != api.ErrForm || len(got) != 0 {
			t.Errorf("Decode of %q = %s, %d", s, short(got), err)
		}
	}
	for s, want := range map[string][]api.Offer{"0;": nil, "1;0:0;0;[][]": make([]api.Offer, 1), "1;1:A9223372036854775807;-9223372036854775808;[3;-2;][1:Z0:]": {of("A", math.MaxInt, math.MinInt, []int{3, -2}, "Z", "")}} {
		if got, err := course.Decode(s); err != api.OK || !sameAll(got, want) {
			t.Errorf("Decode of %q = %s, %d", s, short(got), err)
		}
	}
}

// TestDecodeAll: P7.7 for encodings that are cut short, continued, or have a byte more, less, or another one.
func TestDecodeAll(t *testing.T) {
	bytes := []string{"", "0", "1", "-", "+", ";", ":", "[", "]", "A", " ", "\xff"}
	var lists [][]api.Offer
	for _, l := range slices.Concat(rightCatalogs(), wrongLists()) {
		if len(l) <= 4 {
			lists = append(lists, l)
		}
	}
	for _, l := range lists {
		s := course.Encode(l)
		for at := range len(s) + 1 {
			checkDecode(t, s[:at])
			checkDecode(t, s[at:])
			for _, b := range bytes {
				checkDecode(t, s[:at]+b+s[at:])
				if at < len(s) {
					checkDecode(t, s[:at]+b+s[at+1:])
				}
			}
		}
		for _, m := range lists {
			checkDecode(t, s+course.Encode(m))
		}
	}
}

// checkDecode compares Decode with the model, and with the definition: Encode of the list is s.
func checkDecode(t *testing.T, s string) {
	t.Helper()
	got, err := course.Decode(s)
	if want, wrong := modelDecode(s); err != wrong || !sameAll(got, want) {
		t.Errorf("Decode of %q = %s, %d, want %s, %d", s, short(got), err, short(want), wrong)
	}
	if err == api.OK && modelEncode(got) != s {
		t.Errorf("Decode of %q = %s", s, short(got))
	}
}

// TestDecodeCut: P7.7: no beginning of an encoding is one.
func TestDecodeCut(t *testing.T) {
	for _, l := range slices.Concat(rightCatalogs(), wrongLists()[:12]) {
		s := course.Encode(l)
		for at := range len(s) {
			if got, err := course.Decode(s[:at]); err != api.ErrForm || len(got) != 0 {
				t.Fatalf("Decode of %q = %s, %d", s[:at], short(got), err)
			}
		}
	}
}

// TestDecodeLong: P7.7: how many bytes a string has at most, whatever it says.
func TestDecodeLong(t *testing.T) {
	frame := len(course.Encode([]api.Offer{of(strings.Repeat("x", 200000), 0, 0, nil)})) - 200000
	for _, x := range []struct {
		n    int
		want api.Errno
	}{{262143, api.OK}, {262144, api.OK}, {262145, api.ErrMany}, {262146, api.ErrMany}, {1 << 20, api.ErrMany}} {
		l := []api.Offer{of(strings.Repeat("x", x.n-frame), 0, 0, nil)}
		if x.n == 1<<20 {
			l[0].Code = l[0].Code[1:] // as its length has a digit more
		}
		s := course.Encode(l)
		if len(s) != x.n {
			t.Fatalf("%d bytes, want %d", len(s), x.n)
		}
		got, err := course.Decode(s)
		if err != x.want || err == api.OK && !sameAll(got, l) || err != api.OK && len(got) != 0 {
			t.Errorf("Decode of %d bytes = %d", x.n, err)
		}
	}
	for n, want := range map[int]api.Errno{262144: api.ErrForm, 262145: api.ErrMany, 1 << 20: api.ErrMany} {
		for _, s := range []string{strings.Repeat("x", n), "0;" + strings.Repeat(";", n-2)} {
			if got, err := course.Decode(s); err != want || len(got) != 0 {
				t.Errorf("Decode of %d bytes that are no encoding = %d", n, err)
			}
		}
	}
}

// TestDecodeFull: P7.7: a string of 262144 bytes with as many offers as it has room for, far more than a catalog.
func TestDecodeFull(t *testing.T) {
	l := make([]api.Offer, 26213)
	l[0].Code = "8bytes78"
	s := course.Encode(l)
	if len(s) != 262144 {
		t.Fatalf("%d bytes", len(s))
	}
	if got, err := course.Decode(s); err != api.OK || !sameAll(got, l) {
		t.Errorf("Decode of %d offers = %d, %d", len(l), len(got), err)
	}
}
