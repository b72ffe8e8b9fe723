package entry_test

import (
	"math"
	"strings"
	"testing"

	"quadrivium/api"
	"quadrivium/digest"
	"quadrivium/entry"
	"quadrivium/key"
)

// rings are rings of a school: with one key, with several, and such that are not right.
func rings(school int) []api.Ring {
	return []api.Ring{
		{School: school, Keys: []api.Key{{Id: 1, Secret: "a"}}},
		{School: school, Keys: []api.Key{{Id: 1, Secret: "a"}, {Id: 4, Secret: "b", From: 50, Stolen: 60}, {Id: 7, Secret: strings.Repeat("s", 40), From: 100000}}},
		{School: school},
		{School: school, Keys: []api.Key{{Id: 4, Secret: "x"}, {Id: 1, Secret: "", From: -3}, {Id: 4, Secret: "y"}, {Id: -2, Secret: "z"}, {Id: math.MinInt, Secret: "w", Stolen: -1}}},
	}
}

func ids() []int {
	return []int{1, 4, 7, -2, 0, 2, math.MinInt, math.MaxInt}
}

// modelSign is the second reading of P10.4.
func modelSign(r api.Ring, id int, e api.Entry) (api.Entry, api.Errno) {
	if err := modelCheck(e); err != 0 {
		return api.Entry{}, err
	}
	if e.School != r.School {
		return api.Entry{}, 22
	}
	e.Key = id
	var err api.Errno
	if e.Mark, err = key.Sign(r, id, modelBody(e)); err != 0 {
		return api.Entry{}, err
	}
	return e, 0
}

func wantSign(t *testing.T, r api.Ring, id int, e api.Entry) {
	t.Helper()
	got, err := entry.Sign(r, id, e)
	want, wantErr := modelSign(r, id, e)
	if got != want || err != wantErr {
		t.Errorf("Sign of %+v by %d of %+v: %+v, %d, want %+v, %d", e, id, r, got, err, want, wantErr)
	}
}

// TestSign: P10.4: right entries of each kind, by each ring and id, also by rings that are not right.
func TestSign(t *testing.T) {
	signed := 0
	for _, e := range rightEntries() {
		for _, r := range rings(e.School) {
			for _, id := range ids() {
				wantSign(t, r, id, e)
				if _, err := entry.Sign(r, id, e); err == api.OK {
					signed++
				}
			}
		}
	}
	if signed != 9*8 {
		t.Errorf("%d were signed", signed)
	}
}

// TestSignExample: P10.4: the mark, by the words of the chapter and of chapter 6.
func TestSignExample(t *testing.T) {
	r := rings(1)[1]
	e, err := entry.Sign(r, 4, example())
	body := "7;1;5;3;120;100;2:A15;80;0;0;0;0;4;"
	if err != api.OK || e.Key != 4 || entry.Body(e) != body || e.Mark != digest.Mark("b", "1 4 "+body) {
		t.Errorf("%+v, %d", e, err)
	}
	mark, _ := key.Sign(r, 4, body)
	want := example()
	want.Key, want.Mark = 4, mark
	if e != want {
		t.Errorf("%+v, want %+v", e, want)
	}
	if err := key.Valid(r, 4, entry.Body(e), e.Mark, 55, 59); err != api.OK {
		t.Errorf("the mark is not valid: %d", err)
	}
}

// TestSignAgain: P10.6: what was signed can be signed again, by any key, and Key and Mark from before count for nothing.
func TestSignAgain(t *testing.T) {
	r := rings(1)[1]
	for _, id := range []int{1, 4, 7} {
		want, _ := entry.Sign(r, id, example())
		if again, err := entry.Sign(r, id, want); err != api.OK || again != want {
			t.Errorf("signed again by %d: %+v, %d", id, again, err)
		}
		for _, other := range []int{1, 4, 7} {
			e, _ := entry.Sign(r, other, example())
			if got, err := entry.Sign(r, id, e); err != api.OK || got != want {
				t.Errorf("by %d, then by %d: %+v, %d", other, id, got, err)
			}
			if other != id && e.Mark == want.Mark {
				t.Errorf("%d and %d sign alike", other, id)
			}
		}
		for _, n := range edges() {
			for _, mark := range strs() {
				e := example()
				e.Key, e.Mark = n, mark
				if got, err := entry.Sign(r, id, e); err != api.OK || got != want {
					t.Errorf("with Key %d and Mark %q: %+v, %d", n, mark, got, err)
				}
			}
		}
	}
}

// TestSignFields: P10.4: the mark depends on each field but Key and Mark.
func TestSignFields(t *testing.T) {
	for _, e := range rightEntries() {
		marks := map[string]bool{}
		count := 0
		sign := func(e api.Entry) {
			if got, err := entry.Sign(rings(e.School)[0], 1, e); err == api.OK {
				marks[got.Mark] = true
				count++
			}
		}
		sign(e)
		for _, x := range slots() {
			for _, d := range []int{-1, 1} {
				if x.name != "Key" {
					sign(changed(e, x, *x.of(&e)+d))
				}
			}
		}
		if len(marks) != count || count < 5 {
			t.Errorf("%+v: %d marks of %d entries", e, len(marks), count)
		}
	}
}

// TestSignErrors: P10.4: the error of Check comes first, then that of the school, then that of the key; the entry is zero.
func TestSignErrors(t *testing.T) {
	wrong, none := example(), api.Entry{}
	wrong.Grade = 1001
	other := example()
	other.School = 2
	for _, x := range []struct {
		r    api.Ring
		id   int
		e    api.Entry
		want api.Errno
	}{
		{rings(1)[0], 1, wrong, api.ErrRange}, {rings(2)[0], 1, wrong, api.ErrRange}, {rings(2)[0], 2, wrong, api.ErrRange}, {rings(1)[2], 1, none, api.ErrArg}, {api.Ring{}, 0, none, api.ErrArg},
		{rings(2)[0], 1, example(), api.ErrOwner}, {rings(2)[0], 9, example(), api.ErrOwner}, {rings(1)[0], 1, other, api.ErrOwner}, {rings(-1)[0], 1, example(), api.ErrOwner}, {rings(9)[0], 1, example(), api.ErrOwner}, {api.Ring{}, 1, example(), api.ErrOwner},
		{rings(1)[0], 2, example(), api.ErrNone}, {rings(1)[2], 1, example(), api.ErrNone}, {rings(1)[1], 0, example(), api.ErrNone}, {rings(1)[0], 1, example(), api.OK},
	} {
		got, err := entry.Sign(x.r, x.id, x.e)
		if err != x.want || err != api.OK && got != (api.Entry{}) {
			t.Errorf("Sign of %+v by %d of %+v: %+v, %d, want %d", x.e, x.id, x.r, got, err, x.want)
		}
	}
	for i, e := range wrongEntries() {
		wantSign(t, rings(e.School)[0], 1, e)
		if i%7 == 0 {
			wantSign(t, rings(3)[i%4], ids()[i%8], e)
		}
	}
}
