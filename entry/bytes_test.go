package entry_test

import (
	"math"
	"math/rand"
	"slices"
	"strconv"
	"strings"
	"testing"

	"quadrivium/api"
	"quadrivium/entry"
)

// strs are ordinary texts, and such as look like bytes of an entry.
func strs() []string {
	return []string{"", "A1", "a", ";", ":", "1;", "0:", "1:A", "5;80;", "\x00", "\xff\xfe", "é", "\n", "-", strings.Repeat("z", 9), strings.Repeat("z", 10), strings.Repeat(";", 1000)}
}

// anyEntries are entries, right and wrong, with the ends of the type in each number, and with all kinds of texts.
func anyEntries() []api.Entry {
	l := append(rightEntries(), api.Entry{})
	for _, e := range rightEntries() {
		for _, x := range slots() {
			for _, n := range []int{math.MinInt, math.MinInt + 1, -10, -1, 0, 1, 10, math.MaxInt - 1, math.MaxInt} {
				l = append(l, changed(e, x, n))
			}
		}
		for _, s := range strs() {
			e.Course = s
			for _, m := range strs() {
				e.Mark = m
				l = append(l, e)
			}
		}
	}
	return l
}

func wantBytes(t *testing.T, e api.Entry) {
	t.Helper()
	body, bytes := entry.Body(e), entry.Encode(e)
	if body != modelBody(e) || bytes != modelEncode(e) {
		t.Errorf("%+v: Body %q, Encode %q", e, body, bytes)
	}
}

func wantDecode(t *testing.T, s string) {
	t.Helper()
	e, err := entry.Decode(s)
	want, wantErr := modelDecode(s)
	if e != want || err != wantErr {
		t.Errorf("Decode of %.300q: %+v, %d, want %+v, %d", s, e, err, want, wantErr)
	}
}

func wantForm(t *testing.T, s string) {
	t.Helper()
	if e, err := entry.Decode(s); err != api.ErrForm || e != (api.Entry{}) {
		t.Errorf("Decode of %.300q: %+v, %d, want ErrForm", s, e, err)
	}
}

// TestBody: P10.2: examples, with each field in its place.
func TestBody(t *testing.T) {
	full := api.Entry{Id: 1, School: 2, Student: 3, Kind: 4, Day: 5, On: 6, Course: "seven", Credits: 8, Grade: 9, Ref: 10, From: 11, Programme: 12, Version: 13, Key: 14, Mark: "fifteen"}
	for _, x := range []struct {
		e          api.Entry
		body, mark string
	}{
		{example(), "7;1;5;3;120;100;2:A15;80;0;0;0;0;0;", "0:"},
		{api.Entry{}, "0;0;0;0;0;0;0:0;0;0;0;0;0;0;", "0:"},
		{full, "1;2;3;4;5;6;5:seven8;9;10;11;12;13;14;", "7:fifteen"},
		{api.Entry{Id: math.MinInt, Course: "é;", Key: math.MaxInt, Mark: "\x00:"}, "-9223372036854775808;0;0;0;0;0;3:é;0;0;0;0;0;0;9223372036854775807;", "2:\x00:"},
	} {
		if got := entry.Body(x.e); got != x.body {
			t.Errorf("Body of %+v: %q, want %q", x.e, got, x.body)
		}
		if got := entry.Encode(x.e); got != x.body+x.mark {
			t.Errorf("Encode of %+v: %q, want %q", x.e, got, x.body+x.mark)
		}
		if e, err := entry.Decode(x.body + x.mark); err != api.OK || e != x.e {
			t.Errorf("Decode of %q: %+v, %d", x.body+x.mark, e, err)
		}
	}
}

// TestDecodeUndoes: P10.2, P10.5: entries of all kinds, right or not, are written as the chapter says, and Decode undoes Encode.
func TestDecodeUndoes(t *testing.T) {
	for _, e := range slices.Concat(anyEntries(), wrongEntries()) {
		wantBytes(t, e)
		if got, err := entry.Decode(entry.Encode(e)); err != api.OK || got != e {
			t.Errorf("%+v comes back as %+v, %d", e, got, err)
		}
	}
}

// TestBodiesDiffer: P10.5: bodies are equal exactly if all fields but Mark are: with one field that differs, and for all pairs of many entries.
func TestBodiesDiffer(t *testing.T) {
	for _, e := range append(rightEntries(), api.Entry{}) {
		body := entry.Body(e)
		for _, x := range slots() {
			for _, n := range append(edges(), *x.of(&e)+1, *x.of(&e)-1, -*x.of(&e)) {
				other := changed(e, x, n)
				if same := entry.Body(other) == body; same != (other == e) {
					t.Errorf("%s %d in %+v: equal bodies is %t", x.name, n, e, same)
				}
			}
		}
		for _, s := range strs() {
			other := e
			other.Course = s
			if same := entry.Body(other) == body; same != (s == e.Course) {
				t.Errorf("Course %q in %+v: equal bodies is %t", s, e, same)
			}
			other = e
			other.Mark = s
			if entry.Body(other) != body || entry.Encode(other) == entry.Encode(e) != (s == e.Mark) {
				t.Errorf("Mark %q in %+v", s, e)
			}
		}
	}
	byBody := map[string]api.Entry{}
	for _, e := range anyEntries() {
		e.Mark = ""
		body := entry.Body(e)
		if before, ok := byBody[body]; ok && before != e {
			t.Errorf("%+v and %+v have the body %q", before, e, body)
		}
		byBody[body] = e
	}
}

// TestDecodeCut: P10.2: an encoding that is cut short anywhere, continued, or empty, is none.
func TestDecodeCut(t *testing.T) {
	wantForm(t, "")
	for _, e := range append(rightEntries(), api.Entry{}) {
		s := entry.Encode(e)
		for i := range s {
			wantForm(t, s[:i])
			if i > 0 {
				wantDecode(t, s[i:])
			}
		}
		for c := range 256 {
			wantForm(t, s+string([]byte{byte(c)}))
		}
		wantForm(t, s+s)
		wantForm(t, entry.Body(e))
		wantForm(t, entry.Body(e)+s)
	}
}

// TestDecodeForms: P10.2: what says the same in another form is no encoding.
func TestDecodeForms(t *testing.T) {
	s := entry.Encode(example())
	for _, x := range [][2]string{
		{"7;", "07;"}, {"7;", "+7;"}, {"7;", " 7;"}, {"7;", "7 ;"}, {"7;", "7;;"}, {"7;", "0x7;"}, {"7;", "7.0;"}, {"7;", "-0;"}, {"7;", ";"}, {"7;", "7,"}, {"7;", "7:"}, {"7;", "9223372036854775808;"},
		{"2:A1", "02:A1"}, {"2:A1", "+2:A1"}, {"2:A1", "-2:A1"}, {"2:A1", "2;A1"}, {"2:A1", "A1"}, {"2:A1", "3:A1"}, {"2:A1", "9223372036854775807:A1"}, {"2:A1", "-0:"},
		{";0:", ";00:"}, {";0:", ";1:"}, {";0:", ";-1:"}, {";0:", ";:"}, {";0:", ";0;"}, {";0:", ";"}, {";0:", ";-0:"},
		{"120;100;", "120;100"}, {"120;100;", "120;"}, {"120;100;", "[120;100;]"}, {"120;100;", "120;\n100;"}, {"0;0;0;", "0;-0;0;"}, {"0;0;0;", "0;+0;0;"}, {"0;0;0;", "0;0;"}, {"0;0;0;", "0;0;0;0;0;0;0;"},
	} {
		other := strings.Replace(s, x[0], x[1], 1)
		if other == s {
			t.Fatalf("%q is not in %q", x[0], s)
		}
		wantForm(t, other)
	}
}

// TestDecodeNear: P10.2: encodings with any byte changed, left out or put in, against the second reading.
func TestDecodeNear(t *testing.T) {
	for _, e := range append(rightEntries()[:8], example(), api.Entry{Course: "1;2:", Mark: "0:3;", Key: math.MinInt}) {
		s := entry.Encode(e)
		for i := range len(s) + 1 {
			wantDecode(t, s[:i]+s[min(i+1, len(s)):])
			wantDecode(t, s[:i]+s[min(i+2, len(s)):])
			for c := range 256 {
				b := string([]byte{byte(c)})
				wantDecode(t, s[:i]+b+s[i:])
				if i < len(s) {
					wantDecode(t, s[:i]+b+s[i+1:])
				}
			}
		}
	}
}

// TestDecodeRandom: P10.2: random pieces of encodings, against the second reading.
func TestDecodeRandom(t *testing.T) {
	r := rand.New(rand.NewSource(10))
	pieces := []string{"0;", "1;", "-1;", "00;", "-0;", "7;", "9223372036854775807;", "-9223372036854775808;", "9223372036854775808;", "0:", "1:A", "2:A1", "3:1;2", "01:A", ";", ":", "A"}
	for range 20000 {
		var b strings.Builder
		for i := range 15 {
			switch {
			case r.Intn(40) == 0:
				b.WriteString(pieces[r.Intn(len(pieces))])
			case i == 6 || i == 14:
				b.WriteString(pieces[9+r.Intn(4)])
			default:
				b.WriteString(pieces[r.Intn(3)])
			}
		}
		wantDecode(t, b.String())
	}
}

// TestDecodeLong: P10.2: strings of 262144 and 262145 bytes, as encodings and as others.
func TestDecodeLong(t *testing.T) {
	for _, e := range []api.Entry{example(), {}, rightEntries()[7]} {
		for _, over := range []int{-1, 0, 1, 2} {
			// Six digits of the length of Mark, and the colon.
			e.Mark = strings.Repeat("m", api.MaxBytes+over-len(entry.Body(e))-7)
			s := entry.Encode(e)
			if len(s) != 262144+over {
				t.Fatalf("an encoding of %d bytes", len(s))
			}
			got, err := entry.Decode(s)
			if over > 0 && (err != api.ErrMany || got != api.Entry{}) || over <= 0 && (err != api.OK || got != e) {
				t.Errorf("%d bytes: %d", len(s), err)
			}
		}
	}
	var e api.Entry
	e.Course = strings.Repeat("C", api.MaxBytes-len(entry.Encode(api.Entry{}))-5)
	if got, err := entry.Decode(entry.Encode(e)); err != api.OK || got != e {
		t.Errorf("a long Course: %d", err)
	}
	for _, s := range []string{strings.Repeat("0", 262144), strings.Repeat("0;", 131072), strings.Repeat("\x00", 262144)} {
		wantForm(t, s)
		if got, err := entry.Decode(s + "0"); err != api.ErrMany || got != (api.Entry{}) {
			t.Errorf("%d bytes: %d", len(s)+1, err)
		}
	}
	// What has more bytes is too long also if no more than these would be read.
	s := entry.Encode(example())
	if _, err := entry.Decode(s + strings.Repeat(" ", 262145-len(s))); err != api.ErrMany {
		t.Errorf("an encoding with blanks behind it: %d", err)
	}
	if _, err := entry.Decode(strconv.Itoa(math.MaxInt) + strings.Repeat("9", 262144)); err != api.ErrMany {
		t.Errorf("a long number: %d", err)
	}
}
