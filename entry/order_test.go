package entry_test

import (
	"math"
	"slices"
	"strings"
	"testing"

	"quadrivium/api"
	"quadrivium/entry"
)

// TestKeyExamples: P10.3: keys, among them those with the least and the greatest numbers.
func TestKeyExamples(t *testing.T) {
	for want, e := range map[string]api.Entry{
		"000005 000100 000007 3": example(),
		"000001 000000 000001 1": {Id: 1, School: 1, Student: 1, Kind: 1, Day: 100000, Programme: 1, Key: 9, Mark: "m"},
		"999999 100000 899999 9": {Id: 899999, School: 8, Student: 999999, Kind: 9, Day: 100000, On: 100000, Ref: 1},
		"123456 054321 098765 8": {Id: 98765, School: 8, Student: 123456, Kind: 8, Day: 99999, On: 54321, Programme: 1},
		"100000 010000 100000 2": {Id: 100000, School: 8, Student: 100000, Kind: 2, Day: 10000, On: 10000, Programme: 1, Version: 4},
		"000010 000009 000099 7": {Id: 99, School: 3, Student: 10, Kind: 7, Day: 9, On: 9, From: 2},
	} {
		if got := entry.Key(e); got != want {
			t.Errorf("Key of %+v: %q, want %q", e, got, want)
		}
	}
}

// TestKeyWrong: P10.3: an entry that is not right has no key; any other one has.
func TestKeyWrong(t *testing.T) {
	for _, e := range wrongEntries() {
		if got := entry.Key(e); got != "" {
			t.Errorf("Key of %+v: %q", e, got)
		}
	}
	for _, e := range anyEntries() {
		if got, want := entry.Key(e), modelKey(e); got != want {
			t.Errorf("Key of %+v: %q, want %q", e, got, want)
		}
	}
}

// TestSixDigits: P10.3: each number of up to six digits, in each place.
func TestSixDigits(t *testing.T) {
	e := rightEntries()[0]
	e.Day = 100000
	for n := 1; n <= 999999; n += 1 + n/997 {
		e.Student = n
		e.Id, e.On = min(n, 899999), min(n, 100000)
		if got, want := entry.Key(e), modelKey(e); got != want {
			t.Fatalf("Key of %+v: %q, want %q", e, got, want)
		}
	}
}

// several has entries with few Students, Ons, Ids and Kinds, all right.
func several() []api.Entry {
	var l []api.Entry
	for _, student := range []int{1, 9, 10, 99999, 999999} {
		for _, on := range []int{0, 1, 99, 100000} {
			for _, id := range []int{2, 10, 100, 899999} {
				for _, kind := range []int{1, 2, 8, 9} {
					e := rightEntries()[kind-1]
					e.Student, e.Day, e.On, e.Id = student, 100000, on, id
					l = append(l, e)
				}
			}
		}
	}
	return l
}

// TestKeysOrder: P10.5: keys differ exactly if Student, On, Id or Kind do, and are ordered as Less orders entries.
func TestKeysOrder(t *testing.T) {
	l := several()
	for _, a := range l {
		for _, b := range l {
			x, y := entry.Key(a), entry.Key(b)
			same := a.Student == b.Student && a.On == b.On && a.Id == b.Id && a.Kind == b.Kind
			if x == y != same {
				t.Errorf("%+v and %+v have the keys %q and %q", a, b, x, y)
			}
			if x[:20] < y[:20] != entry.Less(a, b) || entry.Less(a, b) && x >= y {
				t.Errorf("%q and %q: Less is %t", x, y, entry.Less(a, b))
			}
			if got, want := entry.Less(a, b), modelLess(a, b); got != want {
				t.Errorf("Less of %+v and %+v is %t", a, b, got)
			}
		}
	}
}

// TestKeysSame: P10.5: nothing but Student, On, Id and Kind plays a part in a key.
func TestKeysSame(t *testing.T) {
	a := example()
	b := a
	b.School, b.Day, b.Course, b.Credits, b.Grade, b.Key, b.Mark = 8, 100000, "X9", 60, -1000, 5, strings.Repeat("m", 99)
	if entry.Key(a) != entry.Key(b) || entry.Less(a, b) || entry.Less(b, a) {
		t.Errorf("%q and %q", entry.Key(a), entry.Key(b))
	}
	b.Kind, b.Course, b.Credits, b.Ref = api.EnCorrect, "", 0, 3
	if entry.Key(a)+"|"+entry.Key(b) != "000005 000100 000007 3|000005 000100 000007 4" || entry.Less(a, b) || entry.Less(b, a) {
		t.Errorf("%q and %q", entry.Key(a), entry.Key(b))
	}
}

// TestLess: P10.3: by Student, then by On, then by Id, for all numbers, in right entries and in others.
func TestLess(t *testing.T) {
	few := []int{math.MinInt, math.MinInt + 1, -1, 0, 1, math.MaxInt - 1, math.MaxInt}
	var l []api.Entry
	for _, student := range few {
		for _, on := range few {
			for _, id := range few {
				l = append(l, api.Entry{Student: student, On: on, Id: id})
			}
		}
	}
	for i, a := range l {
		for j, b := range l {
			// few increases, so the list is in order.
			if got := entry.Less(a, b); got != (i < j) {
				t.Fatalf("Less of %+v and %+v is %t", a, b, got)
			}
		}
	}
}

// TestLessOthers: P10.3: fields other than Student, On and Id count for nothing.
func TestLessOthers(t *testing.T) {
	for _, x := range slots() {
		if slices.Contains([]string{"Student", "On", "Id"}, x.name) {
			continue
		}
		for _, n := range edges() {
			a, b := example(), changed(example(), x, n)
			b.Course, b.Mark = "0", "zz"
			if entry.Less(a, b) || entry.Less(b, a) {
				t.Errorf("%s %d makes a difference", x.name, n)
			}
			b.Id++
			if !entry.Less(a, b) || entry.Less(b, a) {
				t.Errorf("%s %d makes a difference for the next Id", x.name, n)
			}
		}
	}
}
