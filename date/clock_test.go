package date_test

import (
	"math"
	"slices"
	"testing"

	"quadrivium/api"
	"quadrivium/date"
)

// greatest is the greatest Count of a stamp.
const greatest = 1 << 30

func stamp(day, count, server int) api.Stamp {
	return api.Stamp{Day: day, Count: count, Server: server}
}

// TestLess: P3.4: stamps that differ in one part, in several ones that tell different orders, and in none.
func TestLess(t *testing.T) {
	for _, x := range []struct {
		a, b api.Stamp
		want bool
	}{
		{stamp(7, 3, 2), stamp(8, 3, 2), true}, {stamp(7, 3, 2), stamp(7, 4, 2), true}, {stamp(7, 3, 2), stamp(7, 3, 4), true},
		{stamp(7, 3, 2), stamp(7, 3, 2), false}, {api.Stamp{}, api.Stamp{}, false}, {stamp(7, 9, 9), stamp(8, 0, 1), true}, {stamp(7, 3, 9), stamp(7, 4, 1), true},
		{stamp(0, -1, 0), stamp(0, 0, 1), true}, {stamp(-1, 5, 5), api.Stamp{}, true}, {stamp(math.MinInt, 0, 0), stamp(math.MaxInt, 0, 0), true},
	} {
		if got, back := date.Less(x.a, x.b), date.Less(x.b, x.a); got != x.want || back != (!x.want && x.a != x.b) {
			t.Errorf("Less(%v, %v) = %v, and %v the other way round", x.a, x.b, got, back)
		}
	}
}

// TestLessInTurn: P3.4 for a list in order, with the least and the greatest numbers.
func TestLessInTurn(t *testing.T) {
	parts := []int{math.MinInt, math.MinInt + 1, -1, 0, 1, greatest, math.MaxInt - 1, math.MaxInt}
	var l []api.Stamp
	for _, day := range parts {
		for _, count := range parts {
			for _, server := range parts {
				l = append(l, stamp(day, count, server))
			}
		}
	}
	for i, a := range l {
		for j, b := range l {
			if got := date.Less(a, b); got != (i < j) {
				t.Fatalf("Less(%v, %v) = %v", a, b, got)
			}
		}
	}
}

// now is a call of Now that must return want.
func now(t *testing.T, c *date.Clock, day int, want api.Stamp) {
	t.Helper()
	if got, err := c.Now(day); got != want || err != api.OK {
		t.Errorf("Now(%d) = %v, %d, want %v", day, got, err, want)
	}
}

// notNow is a call of Now that must return an error.
func notNow(t *testing.T, c *date.Clock, day int, want api.Errno) {
	t.Helper()
	if got, err := c.Now(day); got != (api.Stamp{}) || err != want {
		t.Errorf("Now(%d) = %v, %d, want the error %d", day, got, err, want)
	}
}

func hear(t *testing.T, c *date.Clock, s api.Stamp, day int, want api.Errno) {
	t.Helper()
	if err := c.Hear(s, day); err != want {
		t.Errorf("Hear(%v, %d) = %d, want %d", s, day, err, want)
	}
}

// TestExample: the example of the chapter.
func TestExample(t *testing.T) {
	c := date.New(2)
	now(t, c, 7, stamp(7, 0, 2))
	now(t, c, 7, stamp(7, 1, 2))
	now(t, c, 3, stamp(7, 2, 2))
	hear(t, c, stamp(12, 4, 1), 7, api.OK)
	now(t, c, 8, stamp(12, 5, 2))
	hear(t, c, stamp(14, 0, 1), 8, api.ErrDate)
}

// TestNew: P3.5: which servers there are, and the first stamps of their clocks.
func TestNew(t *testing.T) {
	for _, server := range append(far(), -8, -2, -1, 0, 9, 10, 16) {
		if date.New(server) != nil {
			t.Errorf("there is a clock of the server %d", server)
		}
	}
	for server := 1; server <= 8; server++ {
		for _, day := range []int{0, 1, 99, 100, 100000} {
			c := date.New(server)
			now(t, c, day, stamp(day, 0, server))
			now(t, c, day, stamp(day, 1, server))
		}
		// the last stamp is 0/-1/0, and so less than 0/0/1
		c := date.New(server)
		hear(t, c, stamp(0, 0, 1), 0, api.OK)
		now(t, c, 0, stamp(0, 1, server))
	}
	a, b := date.New(3), date.New(3)
	now(t, a, 5, stamp(5, 0, 3))
	now(t, b, 4, stamp(4, 0, 3))
	now(t, a, 4, stamp(5, 1, 3))
}

// TestNow: P3.6 on days that are less than, equal to and greater than the Day of the last stamp.
func TestNow(t *testing.T) {
	for server := 1; server <= 8; server++ {
		c := date.New(server)
		for _, x := range [][3]int{
			{0, 0, 0}, {0, 0, 1}, {0, 0, 2}, {1, 1, 0}, {0, 1, 1}, {1, 1, 2}, {99, 99, 0}, {98, 99, 1}, {100, 100, 0}, {0, 100, 1}, {99, 100, 2}, {100, 100, 3}, {101, 101, 0},
			{99999, 99999, 0}, {100000, 100000, 0}, {100000, 100000, 1}, {0, 100000, 2}, {99999, 100000, 3},
		} {
			now(t, c, x[0], stamp(x[1], x[2], server))
		}
	}
}

// TestNowErrors: P3.6: the errors in their order; none of them changes anything.
func TestNowErrors(t *testing.T) {
	var none *date.Clock
	for _, day := range append(far(), -1, 0, 7, 100000, 100001) {
		notNow(t, none, day, api.ErrArg)
		zero := &date.Clock{}
		notNow(t, zero, day, api.ErrArg)
		notNow(t, zero, 7, api.ErrArg)
	}
	c := date.New(4)
	for count := range 3 {
		for _, day := range append(far(), -100, -1, 100001, 100100) {
			notNow(t, c, day, api.ErrDate)
		}
		now(t, c, 9, stamp(9, count, 4))
	}
	full := date.New(4)
	hear(t, full, stamp(9, greatest, 1), 9, api.OK)
	notNow(t, full, -1, api.ErrDate) // before ErrRange
	notNow(t, full, 100001, api.ErrDate)
	notNow(t, full, 9, api.ErrRange)
}

// TestNowFull: P3.6: behind a Count of 2^30 there is no stamp on that day, nor on one before, until a later day begins.
func TestNowFull(t *testing.T) {
	c := date.New(3)
	hear(t, c, stamp(50, greatest-1, 8), 50, api.OK)
	now(t, c, 50, stamp(50, greatest, 3))
	for _, day := range []int{50, 49, 0, 50} {
		notNow(t, c, day, api.ErrRange)
	}
	hear(t, c, stamp(50, greatest, 2), 50, api.OK) // is less than the last one
	notNow(t, c, 50, api.ErrRange)
	hear(t, c, stamp(50, greatest, 4), 50, api.OK)
	notNow(t, c, 50, api.ErrRange)
	now(t, c, 51, stamp(51, 0, 3))
	now(t, c, 50, stamp(51, 1, 3))
	hear(t, c, stamp(51, greatest, 1), 46, api.OK)
	notNow(t, c, 51, api.ErrRange)
	now(t, c, 52, stamp(52, 0, 3))
	last := date.New(1)
	hear(t, last, stamp(100000, greatest, 1), 100000, api.OK)
	notNow(t, last, 100000, api.ErrRange)
	notNow(t, last, 100001, api.ErrDate)
}

// TestHear: P3.7: a stamp that is greater than the last one takes its place, and no other does.
func TestHear(t *testing.T) {
	for _, x := range []struct {
		heard      api.Stamp
		day, count int // of the next stamp, on the day 20
	}{
		{stamp(20, 5, 4), 20, 6}, {stamp(20, 5, 3), 20, 6}, {stamp(20, 5, 5), 20, 6}, {stamp(20, 4, 8), 20, 6}, {stamp(20, 6, 1), 20, 7}, {stamp(20, 0, 1), 20, 6},
		{stamp(19, 9, 8), 20, 6}, {stamp(0, greatest, 8), 20, 6}, {stamp(0, 0, 1), 20, 6}, {stamp(21, 0, 1), 21, 1}, {stamp(25, 3, 8), 25, 4}, {stamp(20, 900, 4), 20, 901},
	} {
		c := date.New(4)
		hear(t, c, stamp(20, 5, 4), 20, api.OK)
		hear(t, c, x.heard, 20, api.OK)
		now(t, c, 20, stamp(x.day, x.count, 4))
	}
}

// TestHearCount: P3.6 and P3.7: what follows a stamp with the least and the greatest Count on the same day, on the one before, and on the next one.
func TestHearCount(t *testing.T) {
	for _, day := range []int{19, 20, 21} {
		least, most := date.New(4), date.New(4)
		hear(t, least, stamp(20, 0, 1), 20, api.OK)
		hear(t, most, stamp(20, greatest, 1), 20, api.OK)
		if day == 21 {
			now(t, least, day, stamp(21, 0, 4))
			now(t, most, day, stamp(21, 0, 4))
			continue
		}
		now(t, least, day, stamp(20, 1, 4))
		notNow(t, most, day, api.ErrRange)
	}
}

// TestHearServer: P3.7 and P3.6: whatever Server a stamp has that differs from the last one in nothing else, the next stamp has that of the clock.
func TestHearServer(t *testing.T) {
	for server := 1; server <= 8; server++ {
		c := date.New(5)
		now(t, c, 3, stamp(3, 0, 5))
		hear(t, c, stamp(3, 0, server), 3, api.OK)
		now(t, c, 3, stamp(3, 1, 5))
	}
}

// TestHearBounds: P3.7: the bounds of each part, and just behind them.
func TestHearBounds(t *testing.T) {
	for _, x := range []struct {
		s    api.Stamp
		day  int
		want api.Errno
	}{
		{stamp(7, 0, 1), 7, api.OK}, {stamp(12, 0, 1), 7, api.OK}, {stamp(13, 0, 1), 7, api.ErrDate}, {stamp(5, 0, 1), 0, api.OK}, {stamp(6, 0, 1), 0, api.ErrDate},
		{stamp(0, 0, 1), 100000, api.OK}, {stamp(100000, 0, 1), 100000, api.OK}, {stamp(100000, 0, 1), 99995, api.OK}, {stamp(100000, 0, 1), 99994, api.ErrDate},
		{stamp(100001, 0, 1), 100000, api.ErrDate}, {stamp(100001, 0, 1), 100001, api.ErrDate}, {stamp(100000, 0, 1), 100001, api.ErrDate}, {stamp(7, 0, 1), 100001, api.ErrDate},
		{stamp(-1, 0, 1), 0, api.ErrDate}, {stamp(-1, 0, 1), -1, api.ErrDate}, {stamp(0, 0, 1), -1, api.ErrDate}, {stamp(4, 0, 1), -1, api.ErrDate},
		{stamp(7, -1, 1), 7, api.ErrRange}, {stamp(7, greatest, 1), 7, api.OK}, {stamp(7, greatest+1, 1), 7, api.ErrRange}, {stamp(7, math.MinInt, 1), 7, api.ErrRange}, {stamp(7, math.MaxInt, 1), 7, api.ErrRange},
		{stamp(7, 0, 0), 7, api.ErrRange}, {stamp(7, 0, 8), 7, api.OK}, {stamp(7, 0, 9), 7, api.ErrRange}, {stamp(7, 0, -1), 7, api.ErrRange}, {stamp(7, 0, math.MinInt), 7, api.ErrRange}, {stamp(7, 0, math.MaxInt), 7, api.ErrRange},
		{api.Stamp{}, 0, api.ErrRange}, {stamp(0, -1, 0), 0, api.ErrRange}, {stamp(math.MinInt, 0, 1), 7, api.ErrDate}, {stamp(math.MaxInt, 0, 1), 7, api.ErrDate}, {stamp(7, 0, 1), math.MinInt, api.ErrDate}, {stamp(7, 0, 1), math.MaxInt, api.ErrDate},
		// faults that come late are found in stamps that would not be the last ones, too
		{stamp(0, 0, 9), 7, api.ErrRange}, {stamp(0, -1, 1), 7, api.ErrRange},
	} {
		c := date.New(2)
		now(t, c, 1, stamp(1, 0, 2))
		hear(t, c, x.s, x.day, x.want)
		if x.want != api.OK {
			now(t, c, 1, stamp(1, 1, 2))
		}
	}
}

// TestHearErrors: P3.7: each way in which faults come together returns the first error, and changes nothing.
func TestHearErrors(t *testing.T) {
	var none *date.Clock
	l := []int{math.MinInt, -1, 0, 7, 12, 13, 100000, 100001, math.MaxInt}
	for _, day := range l {
		for _, other := range l {
			for _, count := range []int{math.MinInt, -1, 0, greatest, greatest + 1, math.MaxInt} {
				for _, server := range []int{math.MinInt, 0, 1, 8, 9, math.MaxInt} {
					s := stamp(other, count, server)
					hear(t, none, s, day, api.ErrArg)
					zero := &date.Clock{}
					hear(t, zero, s, day, api.ErrArg)
					notNow(t, zero, 7, api.ErrArg)
					heardWith(t, s, day)
				}
			}
		}
	}
}

// heardWith lets a clock hear s on day, and compares what follows with the definition.
func heardWith(t *testing.T, s api.Stamp, day int) {
	t.Helper()
	c, m := date.New(6), newModel(6)
	for range 2 {
		want, _ := m.now(7)
		now(t, c, 7, want)
	}
	hear(t, c, s, day, m.hear(s, day))
	want, err := m.now(7)
	if got, e := c.Now(7); got != want || e != err {
		t.Errorf("after Hear(%v, %d): Now(7) = %v, %d, want %v, %d", s, day, got, e, want, err)
	}
}

// model is a clock by the definition: it keeps all stamps that it returned or heard, the greatest of which is the last one.
type model struct {
	server int
	all    []api.Stamp
}

func newModel(server int) *model {
	return &model{server, []api.Stamp{stamp(0, -1, 0)}}
}

func compare(a, b api.Stamp) int {
	return slices.Compare([]int{a.Day, a.Count, a.Server}, []int{b.Day, b.Count, b.Server})
}

func (m *model) last() api.Stamp {
	return slices.MaxFunc(m.all, compare)
}

func noDay(day int) bool {
	return day < 0 || day > 100000
}

func (m *model) now(day int) (api.Stamp, api.Errno) {
	next := stamp(day, 0, m.server)
	if last := m.last(); day <= last.Day {
		next = stamp(last.Day, last.Count+1, m.server)
	}
	if noDay(day) {
		return api.Stamp{}, api.ErrDate
	}
	if next.Count > greatest {
		return api.Stamp{}, api.ErrRange
	}
	m.all = append(m.all, next)
	return next, api.OK
}

func (m *model) hear(s api.Stamp, day int) api.Errno {
	switch {
	case noDay(day), noDay(s.Day), day+5 < s.Day:
		return api.ErrDate
	case s.Count < 0, s.Count > greatest, s.Server < 1, s.Server > 8:
		return api.ErrRange
	}
	m.all = append(m.all, s)
	return api.OK
}

// numbers gives a sequence of numbers that looks like any.
type numbers uint32

// below returns the next one, from 0 to n - 1.
func (r *numbers) below(n int) int {
	*r = *r*1664525 + 1013904223
	return int(*r>>8) % n
}

// TestSequences: P3.6, P3.7 and P3.9 for a clock of each server: long sequences of Now and Hear against the model, with faults among them.
func TestSequences(t *testing.T) {
	for server := 1; server <= 8; server++ {
		for round := range 20 {
			r := numbers(100*server + round)
			c, m := date.New(server), newModel(server)
			day := r.below(100)
			for range 200 {
				day = max(day+r.below(5)-2, -1)
				if r.below(2) == 0 {
					before := m.last()
					want, wantErr := m.now(day)
					got, err := c.Now(day)
					if got != want || err != wantErr || err == api.OK && compare(got, before) <= 0 {
						t.Fatalf("server %d: Now(%d) behind %v = %v, %d, want %v, %d", server, day, before, got, err, want, wantErr)
					}
					continue
				}
				s := stamp(day+r.below(12)-5, r.below(8)-1, r.below(10))
				if r.below(20) == 0 {
					s.Count = greatest + r.below(3) - 1
				}
				if want, err := m.hear(s, day), c.Hear(s, day); err != want {
					t.Fatalf("server %d: Hear(%v, %d) = %d, want %d", server, s, day, err, want)
				}
			}
		}
	}
}

// TestServers: P3.9: clocks that tell each other their stamps, and are told of days that differ: all stamps are different, each is greater than all that its clock returned or heard before, and none is ahead by more than 5 days.
func TestServers(t *testing.T) {
	r := numbers(1)
	var clocks []*date.Clock
	for server := 1; server <= 8; server++ {
		clocks = append(clocks, date.New(server))
	}
	known := make([][]api.Stamp, 8) // to each clock
	seen := map[api.Stamp]bool{}
	var all []api.Stamp
	most := 0 // of all days that were told
	for step := range 4000 {
		day := max(0, step/20+r.below(9)-4)
		most = max(most, day)
		k := r.below(8)
		if len(all) > 0 && r.below(3) > 0 {
			s := all[max(0, len(all)-1-r.below(30))]
			if err := clocks[k].Hear(s, day); err == api.OK {
				known[k] = append(known[k], s)
			} else if err != api.ErrDate || s.Day <= day+5 {
				t.Fatalf("Hear(%v, %d) = %d", s, day, err)
			}
			continue
		}
		s, err := clocks[k].Now(day)
		if err != api.OK || seen[s] || s.Server != k+1 || s.Day < day || s.Day > most+5 {
			t.Fatalf("the server %d: Now(%d) = %v, %d, seen %v", k+1, day, s, err, seen[s])
		}
		if slices.ContainsFunc(known[k], func(old api.Stamp) bool { return !date.Less(old, s) }) {
			t.Fatalf("the server %d: %v is not greater than all before", k+1, s)
		}
		seen[s] = true
		all, known[k] = append(all, s), append(known[k], s)
	}
}

// TestAhead: P3.9: what a clock hears from others that are ahead does not move it on further than 5 days.
func TestAhead(t *testing.T) {
	a, b := date.New(1), date.New(2)
	hear(t, a, stamp(15, 3, 8), 10, api.OK)
	now(t, a, 10, stamp(15, 4, 1))
	hear(t, b, stamp(15, 4, 1), 10, api.OK)
	for count := 5; count < 1000; count++ {
		now(t, b, 10, stamp(15, count, 2))
	}
	hear(t, b, stamp(16, 0, 1), 10, api.ErrDate)
	now(t, b, 15, stamp(15, 1000, 2))
	now(t, b, 16, stamp(16, 0, 2))
}

// TestAgain: R4: the same calls return the same, whatever other clocks do between them.
func TestAgain(t *testing.T) {
	a, b, other := date.New(7), date.New(7), date.New(1)
	r := numbers(5)
	for range 300 {
		day, s := r.below(50), stamp(r.below(60), r.below(5), 1+r.below(8))
		x, errX := a.Now(day)
		other.Now(100000)
		y, errY := b.Now(day)
		if x != y || errX != errY || a.Hear(s, day) != b.Hear(s, day) {
			t.Fatalf("two clocks with the same calls differ on the day %d: %v, %v", day, x, y)
		}
	}
}
