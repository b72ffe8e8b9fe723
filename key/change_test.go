package key_test

import (
	"math"
	"slices"
	"testing"

	"quadrivium/api"
	"quadrivium/key"
)

// checkAdd compares Add with the definition.
func checkAdd(t *testing.T, r api.Ring, k api.Key) {
	t.Helper()
	got, err := key.Add(r, k)
	if want, wantErr := modelAdd(r, k); !same(got, want) || err != wantErr {
		t.Errorf("Add(%v, %v) = %v, %d, want %v, %d", r, k, got, err, want, wantErr)
	}
}

// checkSteal compares Steal with the definition.
func checkSteal(t *testing.T, r api.Ring, id, day int) {
	t.Helper()
	got, err := key.Steal(r, id, day)
	if want, wantErr := modelSteal(r, id, day); !same(got, want) || err != wantErr {
		t.Errorf("Steal(%v, %d, %d) = %v, %d, want %v, %d", r, id, day, got, err, want, wantErr)
	}
}

// TestAdd: P6.2, with the examples of the chapter.
func TestAdd(t *testing.T) {
	for i, x := range []struct {
		r    api.Ring
		k    api.Key
		want api.Errno
	}{
		{example(), of(4, "c", 50, 0), api.ErrOrder}, {example(), of(5, "c", 49, 0), api.ErrOrder}, {example(), of(5, "c", 50, 0), api.OK}, {example(), of(5, "c", 51, 60), api.OK}, {example(), of(5, "b", 100000, 100000), api.OK}, {example(), of(math.MaxInt, "c", 50, 0), api.OK},
		{ring(1), of(1, "a", 0, 0), api.OK}, {ring(1), of(7, long(40), 100000, 0), api.OK}, {ring(1), api.Key{}, api.ErrRange}, {ring(1), of(0, "a", 0, 0), api.ErrRange}, {ring(1), of(1, "", 0, 0), api.ErrRange}, {ring(1), of(1, long(41), 0, 0), api.ErrRange}, {ring(1), of(1, "a", -1, 0), api.ErrDate}, {ring(1), of(1, "a", 100001, 0), api.ErrDate}, {ring(1), of(1, "a", 0, -1), api.ErrDate}, {ring(1), of(1, "a", 5, 4), api.ErrDate}, {ring(1), of(1, "a", 0, 100001), api.ErrDate},
		{example(), of(3, "c", 60, 0), api.ErrOrder}, {example(), of(1, "c", 60, 0), api.ErrOrder}, {example(), of(0, "c", 60, 0), api.ErrRange}, {example(), of(4, "", 60, 0), api.ErrRange}, {example(), of(4, "c", -1, 0), api.ErrOrder}, {example(), of(5, "c", -1, 0), api.ErrDate}, {example(), of(5, "c", 49, 48), api.ErrDate}, {example(), of(math.MinInt, "c", 60, 0), api.ErrRange}, {example(), of(5, "c", math.MaxInt, 0), api.ErrDate}, {example(), of(5, "c", 60, math.MinInt), api.ErrDate},
		{ring(3, keys(19)...), of(20, "t", 190, 0), api.OK}, {ring(3, keys(20)...), of(21, "u", 200, 0), api.ErrMany}, {ring(3, keys(20)...), api.Key{}, api.ErrMany}, {ring(3, keys(20)...), of(20, "u", -1, 0), api.ErrMany}, {ring(3, keys(21)...), of(22, "u", 300, 0), api.ErrMany},
		{ring(0), of(1, "a", 0, 0), api.ErrArg}, {ring(9), of(1, "a", 0, 0), api.ErrArg}, {ring(0), api.Key{}, api.ErrArg}, {api.Ring{}, of(1, "a", 0, 0), api.ErrArg}, {ring(9, keys(20)...), of(21, "u", 200, 0), api.ErrArg},
		{ring(3, of(4, "a", 0, 0), of(4, "b", 50, 0)), of(5, "", 60, 0), api.ErrOrder}, {ring(3, of(1, "", 0, 0)), of(2, "a", -1, 0), api.ErrRange}, {ring(3, of(1, "a", 0, -1)), of(0, "a", 0, 0), api.ErrDate}, {ring(3, of(1, "a", 5, 0), of(2, "a", 4, 0)), of(0, "a", 0, 0), api.ErrOrder},
	} {
		got, err := key.Add(x.r, x.k)
		if err != x.want {
			t.Errorf("%d: Add = %d, want %d", i, err, x.want)
		}
		if want := ring(x.r.School, append(slices.Clone(x.r.Keys), x.k)...); err == api.OK && !same(got, want) {
			t.Errorf("%d: Add = %v", i, got)
		}
		if err != api.OK && (got.School != 0 || len(got.Keys) != 0) {
			t.Errorf("%d: Add = %v with an error", i, got)
		}
	}
}

// TestAddInTurn: P6.2: one key after the other up to the greatest number of them, and all that was there stays.
func TestAddInTurn(t *testing.T) {
	for school := 1; school <= 8; school++ {
		r, l := ring(school), keys(21)
		for i, k := range l[:20] {
			next, err := key.Add(r, k)
			r = must(t, next, err)
			if !same(r, ring(school, l[:i+1]...)) || key.Check(r) != api.OK {
				t.Fatalf("after %d keys the ring is %v", i+1, r)
			}
		}
		if got, err := key.Add(r, l[20]); err != api.ErrMany || !same(got, api.Ring{}) {
			t.Errorf("a key too many: %v, %d", got, err)
		}
	}
}

// TestAddAll: P6.2, compared with the definition for all pairs of keys, and for all rings of the lists.
func TestAddAll(t *testing.T) {
	some := someKeys()
	for _, a := range some {
		checkAdd(t, ring(3), a)
		for _, b := range some {
			checkAdd(t, ring(3, a), b)
		}
	}
	for _, r := range append(rightRings(), wrongRings()...) {
		for _, k := range some {
			checkAdd(t, r, k)
		}
		for _, id := range ids(r) {
			for _, from := range edges() {
				checkAdd(t, r, of(id, "k", from, 0))
				checkAdd(t, r, of(id, "k", 70, from))
			}
		}
	}
}

// TestSteal: P6.3, with the examples of the chapter.
func TestSteal(t *testing.T) {
	lost := mustSteal(t, example(), 4, 70)
	for i, x := range []struct {
		r       api.Ring
		id, day int
		stolen  []int // of all keys afterwards
		want    api.Errno
	}{
		{example(), 4, 70, []int{0, 70}, api.OK}, {example(), 4, 40, nil, api.ErrDate}, {example(), 5, 70, nil, api.ErrNone}, {example(), 1, 70, []int{70, 0}, api.OK}, {example(), 1, 1, []int{1, 0}, api.OK}, {example(), 4, 50, []int{0, 50}, api.OK}, {example(), 4, 49, nil, api.ErrDate}, {example(), 4, 51, []int{0, 51}, api.OK},
		{example(), 1, 0, nil, api.ErrDate}, {example(), 4, 0, nil, api.ErrDate}, {example(), 1, -1, nil, api.ErrDate}, {example(), 4, 100000, []int{0, 100000}, api.OK}, {example(), 4, 100001, nil, api.ErrDate}, {example(), 1, math.MinInt, nil, api.ErrDate}, {example(), 1, math.MaxInt, nil, api.ErrDate}, {example(), 1, 1<<32 + 1, nil, api.ErrDate},
		{example(), 0, 70, nil, api.ErrNone}, {example(), 3, 70, nil, api.ErrNone}, {example(), -1, 70, nil, api.ErrNone}, {example(), math.MinInt, 70, nil, api.ErrNone}, {example(), math.MaxInt, 70, nil, api.ErrNone}, {example(), 5, 0, nil, api.ErrNone}, {example(), 5, -1, nil, api.ErrNone}, {example(), 1<<32 + 4, 70, nil, api.ErrNone},
		{lost, 4, 60, []int{0, 60}, api.OK}, {lost, 4, 70, []int{0, 70}, api.OK}, {lost, 4, 80, []int{0, 70}, api.OK}, {lost, 4, 69, []int{0, 69}, api.OK}, {lost, 4, 71, []int{0, 70}, api.OK}, {lost, 4, 50, []int{0, 50}, api.OK}, {lost, 4, 49, nil, api.ErrDate}, {lost, 4, 0, nil, api.ErrDate}, {lost, 4, 100001, nil, api.ErrDate}, {lost, 1, 60, []int{60, 70}, api.OK}, {lost, 1, 80, []int{80, 70}, api.OK},
		{ring(3, of(1, "a", 0, 1)), 1, 1, []int{1}, api.OK}, {ring(3, of(1, "a", 0, 1)), 1, 0, nil, api.ErrDate}, {ring(3, of(1, "a", 0, 1)), 1, 2, []int{1}, api.OK}, {ring(3, of(1, "a", 100000, 0)), 1, 100000, []int{100000}, api.OK}, {ring(3, of(1, "a", 100000, 0)), 1, 99999, nil, api.ErrDate}, {ring(3, of(1, "a", 50, 0), of(2, "b", 50, 0)), 1, 50, []int{50, 0}, api.OK}, {ring(3, of(1, "a", 50, 0), of(2, "b", 50, 0)), 2, 60, []int{0, 60}, api.OK},
		{ring(3), 0, 1, nil, api.ErrNone}, {ring(3), 1, 0, nil, api.ErrNone}, {ring(0), 1, 1, nil, api.ErrArg}, {api.Ring{}, 0, 0, nil, api.ErrArg}, {ring(9, of(1, "a", 0, 0)), 2, 0, nil, api.ErrArg}, {ring(3, keys(21)...), 1, 50, nil, api.ErrMany}, {ring(3, of(4, "a", 0, 0), of(4, "b", 50, 0)), 4, 70, nil, api.ErrOrder}, {ring(3, of(4, "a", 0, 0), of(4, "b", 50, 0)), 5, 0, nil, api.ErrOrder}, {ring(3, of(1, "", 0, 0)), 1, 5, nil, api.ErrRange}, {ring(3, of(1, "a", -5, 0)), 1, 5, nil, api.ErrDate}, {ring(3, of(1, "a", 0, -1)), 2, 5, nil, api.ErrDate},
	} {
		got, err := key.Steal(x.r, x.id, x.day)
		if err != x.want {
			t.Errorf("%d: Steal = %d, want %d", i, err, x.want)
		}
		want := api.Ring{}
		if x.want == api.OK {
			want = ring(x.r.School, slices.Clone(x.r.Keys)...)
		}
		for k, day := range x.stolen {
			want.Keys[k].Stolen = day
		}
		if !same(got, want) {
			t.Errorf("%d: Steal = %v, want %v", i, got, want)
		}
	}
}

// TestStealAll: P6.3, compared with the definition for all rings of the lists, all keys and many days.
func TestStealAll(t *testing.T) {
	for _, r := range append(rightRings(), wrongRings()...) {
		for _, id := range ids(r) {
			for _, day := range edges() {
				checkSteal(t, r, id, day)
			}
		}
	}
	for from := range 5 {
		for stolen := range 8 {
			for day := -2; day <= 9; day++ {
				checkSteal(t, ring(3, of(1, "a", from, stolen), of(2, "b", from, 0)), 1, day)
				checkSteal(t, ring(3, of(1, "a", 0, 0), of(2, "b", from, stolen)), 2, day)
			}
		}
	}
}

// TestStealTwice: P6.8: two thefts of a key are the earlier one, in any order; and a ring with thefts is right.
func TestStealTwice(t *testing.T) {
	days := []int{50, 51, 60, 69, 70, 71, 99999, 100000}
	for _, r := range []api.Ring{example(), mustSteal(t, example(), 4, 65), mustSteal(t, example(), 1, 65), ring(3, of(4, "b", 50, 0)), ring(3, of(1, "a", 50, 0), of(4, "a", 50, 100000), of(5, "c", 60, 0))} {
		for _, a := range days {
			for _, b := range days {
				one := mustSteal(t, mustSteal(t, r, 4, a), 4, b)
				other := mustSteal(t, mustSteal(t, r, 4, b), 4, a)
				once := mustSteal(t, r, 4, min(a, b))
				if !same(one, other) || !same(one, once) || key.Check(one) != api.OK {
					t.Errorf("thefts on %d and %d: %v, %v and %v", a, b, one, other, once)
				}
			}
		}
	}
}

// TestStealBoth: P6.3: thefts of different keys do not touch each other, and keys can come after them.
func TestStealBoth(t *testing.T) {
	one := mustSteal(t, mustSteal(t, example(), 4, 70), 1, 60)
	other := mustSteal(t, mustSteal(t, example(), 1, 60), 4, 70)
	if want := ring(3, of(1, "a", 0, 60), of(4, "b", 50, 70)); !same(one, want) || !same(other, want) {
		t.Errorf("thefts of both keys: %v and %v", one, other)
	}
	next, err := key.Add(one, of(5, "c", 65, 0))
	next = must(t, next, err)
	for _, x := range []struct{ day, id int }{{49, 1}, {50, 4}, {60, 4}, {64, 4}, {65, 5}, {70, 5}, {100000, 5}} {
		if id, ok := key.Current(next, x.day); id != x.id || !ok {
			t.Errorf("on %d the key is %d, %v", x.day, id, ok)
		}
	}
}

// TestOwnMemory: R3: Add and Steal change no argument, also not behind the end of its keys, and share no memory with it.
func TestOwnMemory(t *testing.T) {
	change := func(name string, r api.Ring, call func(api.Ring) (api.Ring, api.Errno)) {
		r, all := roomy(r)
		before := slices.Clone(all)
		got, err := call(r)
		if !slices.Equal(all, before) {
			t.Errorf("%s changed %v to %v (error %d)", name, before, all, err)
		}
		kept := ring(got.School, slices.Clone(got.Keys)...)
		for i := range all {
			all[i] = of(99, "other", 98, 97)
		}
		if !same(got, kept) {
			t.Errorf("the result of %s on %v shares memory with it", name, before)
		}
		all = append(all[:0], before...)
		clear(got.Keys)
		if clear(append(got.Keys, api.Key{})[len(got.Keys):]); !slices.Equal(all, before) {
			t.Errorf("the argument of %s shares memory with its result: %v became %v", name, before, all)
		}
	}
	for _, r := range append(rightRings(), wrongRings()...) {
		for _, id := range ids(r) {
			change("Steal", r, func(r api.Ring) (api.Ring, api.Errno) { return key.Steal(r, id, 70) })
			change("Steal", r, func(r api.Ring) (api.Ring, api.Errno) { return key.Steal(r, id, 100000) })
			change("Add", r, func(r api.Ring) (api.Ring, api.Errno) { return key.Add(r, of(id, "k", 70, 0)) })
			change("Add", r, func(r api.Ring) (api.Ring, api.Errno) { return key.Add(r, of(id, "", 100000, 0)) })
		}
		change("Add", r, func(r api.Ring) (api.Ring, api.Errno) { return key.Add(r, of(math.MaxInt, "k", 100000, 0)) })
	}
}

// TestTwoResults: R3: two results from one ring do not share memory with each other.
func TestTwoResults(t *testing.T) {
	r, _ := roomy(example())
	c, err := key.Add(r, of(5, "c", 50, 0))
	d, err2 := key.Add(r, of(6, "d", 60, 0))
	e := mustSteal(t, r, 1, 60)
	f := mustSteal(t, r, 1, 50)
	for i, x := range []struct{ got, want api.Ring }{
		{must(t, c, err), ring(3, of(1, "a", 0, 0), of(4, "b", 50, 0), of(5, "c", 50, 0))}, {must(t, d, err2), ring(3, of(1, "a", 0, 0), of(4, "b", 50, 0), of(6, "d", 60, 0))},
		{e, ring(3, of(1, "a", 0, 60), of(4, "b", 50, 0))}, {f, ring(3, of(1, "a", 0, 50), of(4, "b", 50, 0))}, {r, example()},
	} {
		if !same(x.got, x.want) {
			t.Errorf("%d: %v, want %v", i, x.got, x.want)
		}
	}
	g, err := key.Add(c, of(7, "g", 70, 0))
	h, err2 := key.Add(c, of(8, "h", 80, 0))
	if g, h = must(t, g, err), must(t, h, err2); g.Keys[3] != of(7, "g", 70, 0) || h.Keys[3] != of(8, "h", 80, 0) {
		t.Errorf("two keys after one ring: %v and %v", g, h)
	}
}
