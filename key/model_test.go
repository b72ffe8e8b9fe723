package key_test

import (
	"fmt"
	"math"
	"slices"
	"strings"
	"testing"

	"quadrivium/api"
	"quadrivium/digest"
	"quadrivium/key"
)

// The model follows the promises to the letter, one after the other; the tests compare the program with it.

// edges are numbers around the ends of all days, and around the least and the greatest number of some widths.
func edges() []int {
	return []int{
		math.MinInt, math.MinInt + 1, -1 << 32, -1 << 31, -100001, -100000, -70, -2, -1, 0, 1, 2, 49, 50, 51, 69, 70, 71,
		99999, 100000, 100001, 1 << 31, 1 << 32, 1<<32 + 60, math.MaxInt - 1, math.MaxInt,
	}
}

func of(id int, secret string, from, stolen int) api.Key {
	return api.Key{Id: id, Secret: secret, From: from, Stolen: stolen}
}

func ring(school int, keys ...api.Key) api.Ring {
	return api.Ring{School: school, Keys: keys}
}

// example is the ring of the chapter.
func example() api.Ring {
	return ring(3, of(1, "a", 0, 0), of(4, "b", 50, 0))
}

func long(n int) string {
	return strings.Repeat("s", n)
}

// keys are n keys that can stand one after the other.
func keys(n int) []api.Key {
	var l []api.Key
	for i := range n {
		l = append(l, of(i+1, string(rune('a'+i%26)), 10*i, 0))
	}
	return l
}

// rightRings are rings that are right, without keys, with one, with several and with all that can be; stolen and not.
func rightRings() []api.Ring {
	const big = math.MaxInt
	full := keys(20)
	for i := range full {
		if i%3 == 0 {
			full[i].Stolen = full[i].From + 1 + 25*(i%4)
		}
	}
	return []api.Ring{
		ring(1), ring(8), {School: 3, Keys: []api.Key{}}, example(),
		ring(1, of(1, "a", 0, 0)), ring(8, of(big, long(40), 100000, 100000)), ring(2, of(1, "a", 0, 1)), ring(2, of(5, "\x00", 50, 50)), ring(2, of(7, "\xff", 0, 100000)), ring(2, of(7, "c", 1, 1)),
		ring(3, of(1, "a", 0, 0), of(4, "b", 50, 70)), ring(3, of(1, "a", 0, 60), of(4, "b", 50, 70)), ring(3, of(1, "a", 0, 70), of(4, "b", 50, 60)), ring(3, of(1, "a", 0, 20), of(4, "b", 50, 0)), ring(3, of(1, "a", 0, 50), of(4, "b", 50, 50)),
		ring(4, of(1, "a", 50, 0), of(2, "b", 50, 0)), ring(4, of(1, "a", 50, 0), of(2, "b", 50, 51)), ring(4, of(1, "a", 50, 70), of(2, "a", 50, 50)), ring(4, of(1, "b", 0, 0), of(2, "b", 0, 1), of(3, "b", 0, 2)),
		ring(5, of(1, "a", 0, 0), of(2, "b", 49, 0), of(big-1, "c", 50, 69), of(big, "d", 70, 0)), ring(6, of(2, "a", 10, 90), of(3, "b", 20, 80), of(5, "c", 30, 70), of(9, "d", 40, 60)), ring(6, of(1, "a", 0, 100000), of(2, "b", 100000, 0)),
		{School: 7, Keys: keys(19)}, {School: 7, Keys: keys(20)}, {School: 7, Keys: full},
	}
}

// wrongRings are rings that are not right: each with one fault, or with several.
func wrongRings() []api.Ring {
	l := []api.Ring{
		{}, ring(0, of(1, "a", 0, 0)), ring(-1, of(1, "a", 0, 0)), ring(9, of(1, "a", 0, 0)), ring(math.MinInt), ring(math.MaxInt), ring(1<<32 + 1), {School: 1, Keys: keys(21)}, {School: 9, Keys: keys(21)}, {School: 1, Keys: make([]api.Key, 21)}, {School: 1, Keys: make([]api.Key, 20)},
		ring(3, of(4, "a", 0, 0), of(4, "b", 50, 0)), ring(3, of(4, "a", 0, 0), of(1, "b", 50, 0)), ring(3, of(1, "a", 50, 0), of(4, "b", 49, 0)), ring(3, of(4, "a", 50, 0), of(4, "b", 0, 60)), ring(3, of(4, "b", 50, 60), of(1, "a", 0, 0), of(4, "a", 0, 0), of(4, "c", 70, 0)), ring(3, of(4, "a", 60, 0), of(5, "b", 50, 0), of(4, "c", 40, 0)),
		ring(3, of(1, "a", 50, 49)), ring(3, of(1, "a", 50, -1)), ring(3, of(1, "a", 0, -1)), ring(3, of(1, "a", -1, 0)), ring(3, of(1, "a", -70, -2)), ring(3, of(1, "a", 100001, 0)), ring(3, of(1, "a", 0, 100001)), ring(3, of(1, "a", 100001, 100001)), ring(3, of(1, "a", math.MinInt, math.MinInt)), ring(3, of(1, "a", math.MaxInt, math.MaxInt)), ring(3, of(1, "a", math.MinInt, math.MaxInt)), ring(3, of(1, "a", math.MaxInt, math.MinInt)), ring(3, of(1, "a", math.MinInt, 0)), ring(3, of(1, "a", math.MaxInt, 0)),
		ring(3, of(1, "", 0, 0)), ring(3, of(1, long(41), 0, 0)), ring(3, of(0, "a", 0, 0)), ring(3, of(-1, "a", 0, 0)), ring(3, of(math.MinInt, "a", 0, 0)), ring(3, api.Key{}), ring(3, of(1, "", 0, 60), of(4, "", 50, 0)), ring(3, of(0, "", -1, -2), of(-4, long(41), -2, 0)), ring(0, api.Key{}, api.Key{}), ring(3, of(1, "a", 0, 0), of(0, "b", 100, 0), of(4, "c", 50, 0)),
	}
	return l
}

type fault struct {
	is  bool
	err api.Errno
}

// faultsOfLast are the faults of the last one of keys that stand one after the other, in the order of P6.1.
func faultsOfLast(l []api.Key) []fault {
	isDay := func(n int) bool { return 0 <= n && n <= 100000 }
	last := l[len(l)-1]
	found := []fault{{last.Id <= 0, api.ErrRange}, {len(last.Secret) == 0, api.ErrRange}, {len(last.Secret) >= 41, api.ErrRange}}
	if len(l) > 1 {
		found = append(found, fault{last.Id <= l[len(l)-2].Id, api.ErrOrder})
	}
	found = append(found, fault{!isDay(last.From), api.ErrDate}, fault{last.Stolen != 0 && (!isDay(last.Stolen) || last.Stolen < last.From), api.ErrDate})
	if len(l) > 1 {
		found = append(found, fault{last.From < l[len(l)-2].From, api.ErrOrder})
	}
	return found
}

func modelCheck(r api.Ring) api.Errno {
	found := []fault{{r.School < 1 || r.School > 8, api.ErrArg}, {len(r.Keys) > 20, api.ErrMany}}
	for i := range r.Keys {
		found = append(found, faultsOfLast(r.Keys[:i+1])...)
	}
	for _, f := range found {
		if f.is {
			return f.err
		}
	}
	return api.OK
}

// having returns the keys of r with this id, of which the first one counts.
func having(r api.Ring, id int) []api.Key {
	var l []api.Key
	for _, k := range r.Keys {
		if k.Id == id {
			l = append(l, k)
		}
	}
	return l
}

func modelAdd(r api.Ring, k api.Key) (api.Ring, api.Errno) {
	if err := modelCheck(r); err != api.OK {
		return api.Ring{}, err
	}
	r = ring(r.School, append(slices.Clone(r.Keys), k)...)
	if err := modelCheck(r); err != api.OK {
		return api.Ring{}, err
	}
	return r, api.OK
}

func modelSteal(r api.Ring, id, day int) (api.Ring, api.Errno) {
	if err := modelCheck(r); err != api.OK {
		return api.Ring{}, err
	}
	if len(having(r, id)) == 0 {
		return api.Ring{}, api.ErrNone
	}
	if day < 1 || day > 100000 || day < having(r, id)[0].From {
		return api.Ring{}, api.ErrDate
	}
	out := api.Ring{School: r.School}
	for _, k := range r.Keys {
		if k.Id == id && k.Stolen == 0 {
			k.Stolen = day
		} else if k.Id == id {
			k.Stolen = min(k.Stolen, day)
		}
		out.Keys = append(out.Keys, k)
	}
	return out, api.OK
}

func modelCurrent(r api.Ring, day int) (int, bool) {
	id, any := 0, false
	for _, k := range r.Keys {
		if k.From <= day && (k.Stolen == 0 || k.Stolen > day) {
			id, any = k.Id, true
		}
	}
	return id, any
}

func modelSign(r api.Ring, id int, text string) (string, api.Errno) {
	l := having(r, id)
	if len(l) == 0 {
		return "", api.ErrNone
	}
	return digest.Mark(l[0].Secret, fmt.Sprintf("%d %d %s", r.School, id, text)), api.OK
}

func modelValid(r api.Ring, id int, text, mark string, day, seen int) api.Errno {
	l := having(r, id)
	if len(l) == 0 {
		return api.ErrNone
	}
	right, _ := modelSign(r, id, text)
	for _, f := range []fault{{day < l[0].From, api.ErrDate}, {l[0].Secret == "" || mark != right, api.ErrKey}, {l[0].Stolen != 0 && seen >= l[0].Stolen, api.ErrKey}} {
		if f.is {
			return f.err
		}
	}
	return api.OK
}

// same reports whether two rings are equal (R1).
func same(a, b api.Ring) bool {
	return a.School == b.School && slices.Equal(a.Keys, b.Keys)
}

// ids are the Ids of all keys, and some which few keys have.
func ids(r api.Ring) []int {
	l := []int{math.MinInt, -4, -1, 0, 1, 2, 4, 5, 21, 1<<32 + 4, math.MaxInt - 1, math.MaxInt}
	for _, k := range r.Keys {
		l = append(l, k.Id)
	}
	slices.Sort(l)
	return slices.Compact(l)
}

// roomy lays the keys of r into memory in which others stand before and behind them, and returns all this memory.
func roomy(r api.Ring) (api.Ring, []api.Key) {
	all := slices.Concat([]api.Key{of(70, "x", 70, 70)}, r.Keys, []api.Key{of(71, "y", 71, 0), of(72, "z", 72, 0)})
	return api.Ring{School: r.School, Keys: all[1 : 1+len(r.Keys)]}, all
}

// must returns r, which the call was to give.
func must(t *testing.T, r api.Ring, err api.Errno) api.Ring {
	t.Helper()
	if err != api.OK {
		t.Fatalf("error %d", err)
	}
	return r
}

// mustSteal steals a key, which must be possible.
func mustSteal(t *testing.T, r api.Ring, id, day int) api.Ring {
	t.Helper()
	got, err := key.Steal(r, id, day)
	return must(t, got, err)
}

// mustSign signs with a key that the ring has.
func mustSign(t *testing.T, r api.Ring, id int, text string) string {
	t.Helper()
	mark, err := key.Sign(r, id, text)
	if err != api.OK {
		t.Fatalf("Sign with the key %d of %v: error %d", id, r, err)
	}
	return mark
}
