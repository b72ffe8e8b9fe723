package key_test

import (
	"math"
	"slices"
	"strings"
	"testing"

	"quadrivium/api"
	"quadrivium/digest"
	"quadrivium/key"
)

// texts are texts of which some could be taken for parts of what stands before a text.
func texts() []string {
	return []string{"", " ", "  ", "ab", "0", "1", "4", "1 ", " 1", "4 ab", "1 4 ab", " ab", "3 4 ab", "-1", "\x00", "\xff\xfe", "ü", "\n", "a\x00b"}
}

// TestSign: P6.5: marks written out, also of rings that are not right; and that no other ring, Id or text has the same.
func TestSign(t *testing.T) {
	for i, x := range []struct {
		r    api.Ring
		id   int
		text string
		want string
	}{
		{example(), 4, "ab", "\x54\x0d\x9a\x51\x49\x41\xec\x07"}, {example(), 1, "", "\x46\xcb\x92\xcd\x4c\x90\xa0\x5a"}, {ring(8, of(3, "x", 0, 0), of(12, "secret", 0, 1)), 12, " 7 x", "\x69\xfe\xc0\xad\x1f\x8e\x68\x8b"},
		{ring(-1, of(math.MaxInt, "", 0, 0)), math.MaxInt, "0", "\x75\x74\x00\x12\x45\xbf\xe2\xc8"}, {ring(math.MinInt, of(math.MinInt, "a", -1, -1)), math.MinInt, "1 2", "\x76\x2d\x96\x92\x5c\xc5\xaa\xce"}, {ring(3, of(4, strings.Repeat("b", 41), 0, 0)), 4, "\x00\xff", "\x32\x98\x17\x29\x46\x41\x06\x9c"},
		{mustSteal(t, example(), 4, 50), 4, "ab", "\x54\x0d\x9a\x51\x49\x41\xec\x07"}, {ring(3, of(4, "b", 0, 0), of(4, "c", 0, 0)), 4, "ab", "\x54\x0d\x9a\x51\x49\x41\xec\x07"}, {ring(3, of(5, "a", 9, 0), of(4, "b", 0, 0), of(4, "c", 0, 0), of(5, "b", 0, 0)), 4, "ab", "\x54\x0d\x9a\x51\x49\x41\xec\x07"},
	} {
		if got, err := key.Sign(x.r, x.id, x.text); got != x.want || err != api.OK {
			t.Errorf("%d: Sign = %x, %d, want %x", i, got, err, x.want)
		}
	}
	for _, r := range []api.Ring{{}, ring(3), example(), ring(9, of(1, "a", 0, 0)), ring(3, keys(21)...)} {
		for _, id := range []int{math.MinInt, -1, 0, 22, 1 << 32, 1<<32 + 1, math.MaxInt} {
			if got, err := key.Sign(r, id, "ab"); got != "" || err != api.ErrNone {
				t.Errorf("Sign with the key %d of %v = %x, %d", id, r, got, err)
			}
		}
	}
}

// TestSignAll: P6.5, compared with the definition for all rings of the lists, right or not.
func TestSignAll(t *testing.T) {
	for _, r := range append(rightRings(), wrongRings()...) {
		r, all := roomy(r)
		before := slices.Clone(all)
		for _, id := range ids(r) {
			for _, text := range append(texts(), long(100000)) {
				got, err := key.Sign(r, id, text)
				if want, wantErr := modelSign(r, id, text); got != want || err != wantErr {
					t.Errorf("Sign(%v, %d, %.20q) = %x, %d, want %x, %d", r, id, text, got, err, want, wantErr)
				}
			}
		}
		if !slices.Equal(all, before) {
			t.Errorf("Sign changed %v", before)
		}
	}
}

// TestSignApart: P6.5: what is marked tells apart the school, the Id and the text, whatever the text begins with.
func TestSignApart(t *testing.T) {
	type what struct {
		school, id int
		text       string
	}
	seen := map[string]what{}
	for _, school := range []int{-1, 0, 1, 2, 3, 8, 11, 12} {
		for _, id := range []int{-1, 0, 1, 2, 4, 11, 12, 112} {
			for _, text := range append(texts(), "2", "2 ", "11", "12 1", "1 1", "1 1 ", "2 1") {
				mark, text := mustSign(t, ring(school, of(id, "a", 0, 0)), id, text), what{school, id, text}
				if old, twice := seen[mark]; twice && old != text {
					t.Errorf("%v has the mark of %v", text, old)
				}
				seen[mark] = text
			}
		}
	}
}

// TestValid: P6.6, with the examples of the chapter: before a theft and after it, days and marks.
func TestValid(t *testing.T) {
	lost := mustSteal(t, example(), 4, 70)
	young := ring(3, of(1, "a", 0, 1))
	first := ring(3, of(4, "b", 50, 70), of(4, "c", 0, 0))
	mark := mustSign(t, example(), 4, "ab")
	for i, x := range []struct {
		r          api.Ring
		id         int
		text, mark string
		day, seen  int
		want       api.Errno
	}{
		{lost, 4, "ab", mark, 60, 69, api.OK}, {lost, 4, "ab", mark, 60, 70, api.ErrKey}, {lost, 4, "ab", mark, 49, 69, api.ErrDate}, {lost, 4, "ab", mark, 60, 71, api.ErrKey}, {lost, 4, "ab", mark, 50, 69, api.OK}, {lost, 4, "ab", mark, 49, 70, api.ErrDate}, {lost, 4, "ab", mark, 90, 69, api.OK}, {lost, 4, "ab", mark, 60, 40, api.OK}, {lost, 4, "ab", mark, 60, math.MinInt, api.OK}, {lost, 4, "ab", mark, 60, math.MaxInt, api.ErrKey}, {lost, 4, "ab", mark, math.MaxInt, 0, api.OK}, {lost, 4, "ab", mark, math.MinInt, 0, api.ErrDate},
		{example(), 4, "ab", mark, 60, 70, api.OK}, {example(), 4, "ab", mark, 60, math.MaxInt, api.OK}, {example(), 4, "ab", mark, 60, math.MinInt, api.OK}, {example(), 4, "ab", mark, 49, 70, api.ErrDate}, {example(), 4, "ab", mark, 50, 70, api.OK}, {example(), 4, "ab", mark, 100001, 100001, api.OK}, {example(), 4, "ab", mark, -1, 70, api.ErrDate}, {example(), 4, "ab", mark, 60, -1, api.OK},
		{example(), 5, "ab", mark, 60, 70, api.ErrNone}, {example(), 5, "ab", "", 0, 70, api.ErrNone}, {example(), 0, "ab", mark, 60, 70, api.ErrNone}, {example(), 1<<32 + 4, "ab", mark, 60, 70, api.ErrNone}, {example(), math.MinInt, "ab", mark, 60, 70, api.ErrNone}, {example(), math.MaxInt, "ab", mark, 60, 70, api.ErrNone}, {api.Ring{}, 0, "", "", 0, 0, api.ErrNone}, {ring(3), 1, "", "", 0, 0, api.ErrNone},
		{example(), 4, "ab", "", 60, 60, api.ErrKey}, {example(), 4, "ab", "", 49, 60, api.ErrDate}, {example(), 4, "ab", mark[:7], 60, 60, api.ErrKey}, {example(), 4, "ab", mark[1:], 60, 60, api.ErrKey}, {example(), 4, "ab", mark + "\x00", 60, 60, api.ErrKey}, {example(), 4, "ab", "\x00" + mark, 60, 60, api.ErrKey}, {example(), 4, "ab", mark + mark, 60, 60, api.ErrKey}, {lost, 4, "ab", mark[:7], 49, 70, api.ErrDate}, {lost, 4, "ab", mark[:7], 60, 70, api.ErrKey},
		{example(), 4, "ac", mark, 60, 60, api.ErrKey}, {example(), 4, "", mark, 60, 60, api.ErrKey}, {example(), 4, " ab", mark, 60, 60, api.ErrKey}, {example(), 4, "ab ", mark, 60, 60, api.ErrKey}, {example(), 4, "4 ab", mark, 60, 60, api.ErrKey}, {example(), 4, "3 4 ab", mark, 60, 60, api.ErrKey}, {example(), 1, "ab", mark, 60, 60, api.ErrKey}, {ring(4, example().Keys...), 4, "ab", mark, 60, 60, api.ErrKey}, {ring(3, of(4, "c", 50, 0)), 4, "ab", mark, 60, 60, api.ErrKey}, {ring(3, of(5, "b", 50, 0)), 5, "ab", mark, 60, 60, api.ErrKey},
		{example(), 4, "ab", digest.Mark("b", "ab"), 60, 60, api.ErrKey}, {example(), 4, "ab", digest.Mark("b", "3 4ab"), 60, 60, api.ErrKey}, {example(), 4, "ab", digest.Of("3 4 ab"), 60, 60, api.ErrKey}, {example(), 4, "ab", digest.Mark("b", "3 4 ab"), 60, 60, api.OK},
		{young, 1, "", mustSign(t, young, 1, ""), 0, 0, api.OK}, {young, 1, "", mustSign(t, young, 1, ""), 0, 1, api.ErrKey}, {young, 1, "", mustSign(t, young, 1, ""), -1, 0, api.ErrDate}, {young, 1, "", mustSign(t, young, 1, ""), 5, 0, api.OK},
		{first, 4, "ab", mark, 60, 69, api.OK}, {first, 4, "ab", mark, 60, 70, api.ErrKey}, {first, 4, "ab", mark, 49, 69, api.ErrDate}, {first, 4, "ab", mustSign(t, ring(3, first.Keys[1]), 4, "ab"), 60, 60, api.ErrKey},
		{ring(3, of(1, "", 0, 0)), 1, "ab", digest.Mark("", "3 1 ab"), 0, 0, api.ErrKey}, {ring(3, of(1, long(41), 0, 0)), 1, "ab", digest.Mark(long(41), "3 1 ab"), 0, 0, api.OK}, {ring(-1, of(0, "a", -9, 0)), 0, "ab", digest.Mark("a", "-1 0 ab"), -9, 0, api.OK}, {ring(3, of(1, "a", -9, -5)), 1, "ab", digest.Mark("a", "3 1 ab"), -9, -6, api.OK}, {ring(3, of(1, "a", -9, -5)), 1, "ab", digest.Mark("a", "3 1 ab"), -9, -5, api.ErrKey}, {ring(3, of(1, "a", -9, math.MinInt)), 1, "ab", digest.Mark("a", "3 1 ab"), 0, math.MinInt, api.ErrKey}, {ring(3, of(1, "a", math.MaxInt, math.MaxInt)), 1, "ab", digest.Mark("a", "3 1 ab"), math.MaxInt, math.MaxInt - 1, api.OK}, {ring(3, of(1, "a", math.MinInt, 0)), 1, "ab", digest.Mark("a", "3 1 ab"), math.MinInt, 0, api.OK},
	} {
		if got := key.Valid(x.r, x.id, x.text, x.mark, x.day, x.seen); got != x.want {
			t.Errorf("%d: Valid = %d, want %d", i, got, x.want)
		}
	}
}

// TestValidAll: P6.6, compared with the definition for all rings of the lists, right or not, with marks of several rings, Ids and texts.
func TestValidAll(t *testing.T) {
	for _, r := range append(rightRings(), wrongRings()...) {
		r, all := roomy(r)
		before := slices.Clone(all)
		for _, id := range ids(r) {
			for _, text := range []string{"", "1", " ab"} {
				mark, _ := modelSign(r, id, text)
				other, _ := modelSign(r, id, text+"x")
				for _, m := range []string{mark, other, "", mark + "x"} {
					checkValid(t, r, id, text, m)
				}
			}
		}
		if !slices.Equal(all, before) {
			t.Errorf("Valid changed %v", before)
		}
	}
}

// checkValid compares Valid with the definition on days around the edges.
func checkValid(t *testing.T, r api.Ring, id int, text, mark string) {
	t.Helper()
	for _, day := range edges() {
		for _, seen := range edges() {
			if got, want := key.Valid(r, id, text, mark, day, seen), modelValid(r, id, text, mark, day, seen); got != want {
				t.Errorf("Valid(%v, %d, %q, %x, %d, %d) = %d, want %d", r, id, text, mark, day, seen, got, want)
			}
		}
	}
}

// TestSignedStays: P6.7: what any key of a right ring signs is valid from its From on, and published before its theft; and refused otherwise.
func TestSignedStays(t *testing.T) {
	for _, r := range rightRings() {
		for _, k := range r.Keys {
			mark := mustSign(t, r, k.Id, "text")
			for _, day := range []int{0, k.From - 1, k.From, k.From + 1, 100000} {
				for _, seen := range []int{0, k.From, k.Stolen - 1, k.Stolen, k.Stolen + 1, 100000} {
					got := key.Valid(r, k.Id, "text", mark, day, seen)
					if want := day >= k.From && (k.Stolen == 0 || seen < k.Stolen); (got == api.OK) != want {
						t.Errorf("what the key %v signs is of day %d, seen on %d: %d", k, day, seen, got)
					}
				}
			}
		}
	}
}

// TestAnotherIsRefused: P6.7: a mark is not valid for another text, school or key, nor with a byte changed.
func TestAnotherIsRefused(t *testing.T) {
	l := []api.Ring{example(), ring(4, example().Keys...), ring(1, of(1, "b", 0, 0), of(4, "a", 0, 0)), ring(3, of(1, "A", 0, 0), of(4, "B", 0, 0)), ring(3, of(1, "b", 0, 0), of(4, "bb", 0, 0))}
	for i, r := range l {
		for _, id := range []int{1, 4} {
			mark := mustSign(t, r, id, "ab")
			for j, other := range l {
				for _, otherId := range []int{1, 4} {
					for _, text := range append(texts(), "b", "aB", "abab") {
						want := api.ErrKey
						if i == j && id == otherId && text == "ab" {
							want = api.OK
						}
						if got := key.Valid(other, otherId, text, mark, 60, 60); got != want {
							t.Errorf("the mark of %d in %v for %d in %v and %q: %d", id, r, otherId, other, text, got)
						}
					}
				}
			}
		}
	}
}

// TestChangedMark: P6.6: marks with one byte changed, in every way.
func TestChangedMark(t *testing.T) {
	mark := mustSign(t, example(), 4, "ab")
	for i := range len(mark) {
		for c := range 256 {
			b := []byte(mark)
			b[i] = byte(c)
			want := api.ErrKey
			if string(b) == mark {
				want = api.OK
			}
			if got := key.Valid(example(), 4, "ab", string(b), 60, 60); got != want {
				t.Errorf("the mark %x: %d", b, got)
			}
		}
		if got := key.Valid(example(), 4, "ab", mark[:i], 60, 60); got != api.ErrKey {
			t.Errorf("%d bytes of the mark: %d", i, got)
		}
	}
}

// TestStealMakesNothingValid: P6.8: after a theft nothing is valid that was not, and what was seen before its day is judged as before.
func TestStealMakesNothingValid(t *testing.T) {
	days := []int{-1, 0, 1, 49, 50, 51, 60, 69, 70, 71, 100, 100000, 100001}
	for _, r := range rightRings() {
		for _, stolen := range ids(r) {
			for _, day := range days {
				after, err := key.Steal(r, stolen, day)
				if err != api.OK {
					continue
				}
				for _, id := range []int{stolen, 1, 4} {
					compareTheft(t, r, after, id, day, days)
				}
			}
		}
	}
}

// compareTheft compares what is valid before a theft on day, and after it.
func compareTheft(t *testing.T, before, after api.Ring, id, day int, days []int) {
	t.Helper()
	mark, _ := key.Sign(before, id, "ab")
	if again, _ := key.Sign(after, id, "ab"); again != mark {
		t.Errorf("a theft on %d changes the mark of the key %d of %v", day, id, before)
	}
	for _, m := range []string{mark, "", "forged.."} {
		for _, in := range days {
			for _, seen := range days {
				was, is := key.Valid(before, id, "ab", m, in, seen), key.Valid(after, id, "ab", m, in, seen)
				if was != api.OK && is != was {
					t.Errorf("a theft on %d makes %d of %d, for the key %d of %v, on %d, seen on %d", day, is, was, id, before, in, seen)
				}
				if seen < day && is != was {
					t.Errorf("a theft on %d changes what was seen on %d, for the key %d of %v: %d, %d", day, seen, id, before, was, is)
				}
			}
		}
	}
}

// TestTheftThenSigned: P6.4, P6.5, P6.6, T9: a school goes on with a new key; the thief has the old one.
func TestTheftThenSigned(t *testing.T) {
	r := mustSteal(t, example(), 4, 70)
	next, err := key.Add(r, of(5, "new", 70, 0))
	r = must(t, next, err)
	id, ok := key.Current(r, 75)
	if id != 5 || !ok {
		t.Fatalf("the key of day 75 is %d, %v", id, ok)
	}
	if got := key.Valid(r, id, "ab", mustSign(t, r, id, "ab"), 75, 75); got != api.OK {
		t.Errorf("what the new key signs: %d", got)
	}
	forged := mustSign(t, r, 4, "dated back to day 60")
	if got := key.Valid(r, 4, "dated back to day 60", forged, 60, 75); got != api.ErrKey {
		t.Errorf("what the thief signs: %d", got)
	}
	if got := key.Valid(r, 5, "ab", forged, 75, 75); got != api.ErrKey {
		t.Errorf("what the thief signs for the new key: %d", got)
	}
}
