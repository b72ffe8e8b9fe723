package entry_test

import (
	"math"
	"strings"
	"testing"

	"quadrivium/api"
	"quadrivium/entry"
)

func wantCheck(t *testing.T, e api.Entry, want api.Errno) {
	t.Helper()
	if got := entry.Check(e); got != want {
		t.Errorf("Check of %+v: %d, want %d", e, got, want)
	}
}

// TestRight: P10.1: a right entry of each kind.
func TestRight(t *testing.T) {
	for i, e := range rightEntries() {
		if e.Kind != i+1 {
			t.Fatalf("%+v stands for the kind %d", e, i+1)
		}
		wantCheck(t, e, api.OK)
	}
}

// TestCheckExamples: P10.1: the examples of the chapter.
func TestCheckExamples(t *testing.T) {
	e := example()
	wantCheck(t, e, api.OK)
	for _, x := range []struct {
		name string
		n    int
		want api.Errno
	}{
		{"Ref", 3, api.ErrKind}, {"Kind", 10, api.ErrKind}, {"On", 121, api.ErrDate}, {"Credits", 0, api.ErrRange}, {"Id", 900000, api.ErrArg},
	} {
		wantCheck(t, changed(e, named(x.name), x.n), x.want)
	}
	small := e
	small.Course = "a1"
	wantCheck(t, small, api.ErrCourse)
	correct := e
	correct.Kind, correct.Ref = api.EnCorrect, 3
	wantCheck(t, correct, api.ErrKind)
	correct.Course, correct.Credits = "", 0
	wantCheck(t, correct, api.OK)
}

// TestBounds: P10.1: each bound, from both sides, of each field, in an entry of each kind that has it.
func TestBounds(t *testing.T) {
	const every = "123456789"
	for _, x := range []struct {
		name  string
		kinds string
		n     int
		want  api.Errno
	}{
		{"Id", every, 0, api.ErrArg}, {"Id", every, 899998, api.OK}, {"Id", every, 900000, api.ErrArg}, {"Id", every, -1, api.ErrArg}, {"Id", every, math.MinInt, api.ErrArg}, {"Id", every, math.MaxInt, api.ErrArg},
		{"School", every, 0, api.ErrArg}, {"School", every, 1, api.OK}, {"School", every, 8, api.OK}, {"School", every, 9, api.ErrArg}, {"School", every, -1, api.ErrArg},
		{"Student", every, 0, api.ErrArg}, {"Student", every, 1, api.OK}, {"Student", every, 999999, api.OK}, {"Student", every, 1000000, api.ErrArg}, {"Student", every, -1, api.ErrArg},
		{"Kind", every, 0, api.ErrKind}, {"Kind", every, 10, api.ErrKind}, {"Kind", every, -1, api.ErrKind}, {"Kind", every, math.MaxInt, api.ErrKind}, {"Kind", every, math.MinInt, api.ErrKind}, {"Kind", every, 1<<32 + 1, api.ErrKind},
		{"Day", every, -1, api.ErrDate}, {"Day", every, 100000, api.OK}, {"Day", every, 100001, api.ErrDate}, {"Day", every, math.MaxInt, api.ErrDate},
		{"On", every, -1, api.ErrDate}, {"On", every, 0, api.OK}, {"On", every, 100001, api.ErrDate}, {"On", every, math.MinInt, api.ErrDate},
		{"Credits", "3", 0, api.ErrRange}, {"Credits", "3", 1, api.OK}, {"Credits", "3", 60, api.OK}, {"Credits", "3", 61, api.ErrRange}, {"Credits", "3", -1, api.ErrRange},
		{"Credits", "12456789", 1, api.ErrKind}, {"Credits", "12456789", -1, api.ErrKind},
		{"Grade", "34", -1001, api.ErrRange}, {"Grade", "34", -1000, api.OK}, {"Grade", "34", 0, api.OK}, {"Grade", "34", 1000, api.OK}, {"Grade", "34", 1001, api.ErrRange},
		{"Grade", "1256789", 1, api.ErrKind}, {"Grade", "1256789", -1, api.ErrKind},
		{"Ref", "4569", 0, api.ErrRef}, {"Ref", "4569", -1, api.ErrRef}, {"Ref", "4569", 1, api.OK}, {"Ref", "4569", 899998, api.OK}, {"Ref", "4569", 900000, api.ErrRef},
		{"Ref", "12378", 1, api.ErrKind}, {"Ref", "12378", -1, api.ErrKind},
		{"From", "7", 0, api.ErrRange}, {"From", "7", -1, api.ErrRange}, {"From", "7", 1, api.OK}, {"From", "7", 8, api.OK}, {"From", "7", 9, api.ErrRange},
		{"From", "12345689", 1, api.ErrKind}, {"From", "12345689", -1, api.ErrKind},
		{"Programme", "128", 0, api.ErrRange}, {"Programme", "128", -1, api.ErrRange}, {"Programme", "128", 1, api.OK}, {"Programme", "128", math.MaxInt, api.OK}, {"Programme", "128", math.MinInt, api.ErrRange},
		{"Programme", "345679", 1, api.ErrKind}, {"Programme", "345679", -1, api.ErrKind},
		{"Version", "2", 0, api.ErrRange}, {"Version", "2", -1, api.ErrRange}, {"Version", "2", 1, api.OK}, {"Version", "2", 21, api.OK}, {"Version", "2", math.MaxInt, api.OK},
		{"Version", "13456789", 1, api.ErrKind}, {"Version", "13456789", -1, api.ErrKind},
		{"Key", every, math.MinInt, api.OK}, {"Key", every, -1, api.OK}, {"Key", every, 0, api.OK}, {"Key", every, math.MaxInt, api.OK},
	} {
		for _, kind := range x.kinds {
			// Id and School 5 are neither Ref nor From here, and the day leaves room.
			e := rightEntries()[kind-'1']
			e.Id, e.School, e.Day, e.On = 5, 5, 200, 100
			if x.name == "On" && x.n > 100000 {
				e.Day = 100000
			}
			wantCheck(t, changed(e, named(x.name), x.n), x.want)
		}
	}
}

// TestOwnNumbers: P10.1: Ref is not Id, and From is not School, whatever these are; On can be Day, but no more.
func TestOwnNumbers(t *testing.T) {
	for _, kind := range []int{api.EnCorrect, api.EnFinding, api.EnLift, api.EnEnd} {
		e := rightEntries()[kind-1]
		for _, id := range []int{1, 2, 500000, 899999} {
			e.Id, e.Ref = id, id
			wantCheck(t, e, api.ErrRef)
			if e.Ref = id - 1; id > 1 {
				wantCheck(t, e, api.OK)
			}
			if e.Ref = id + 1; id < 899999 {
				wantCheck(t, e, api.OK)
			}
		}
	}
	move := rightEntries()[api.EnMove-1]
	for school := 1; school <= 8; school++ {
		for from := 1; from <= 8; from++ {
			move.School, move.From = school, from
			want := api.OK
			if from == school {
				want = api.ErrRange
			}
			wantCheck(t, move, want)
		}
	}
	for _, e := range rightEntries() {
		for _, day := range []int{0, 1, 99999, 100000} {
			e.Day, e.On = day, day
			wantCheck(t, e, api.OK)
			e.On = day + 1
			wantCheck(t, e, api.ErrDate)
		}
	}
}

// TestCourse: P10.1: only a grade has Course, and it is a code.
func TestCourse(t *testing.T) {
	for i, e := range rightEntries() {
		for _, code := range codes() {
			e.Course = code
			wantCheck(t, e, modelCheck(e))
			if i+1 != api.EnGrade && code != "" {
				wantCheck(t, e, api.ErrKind)
			}
		}
	}
	e := example()
	for code, want := range map[string]api.Errno{"": api.ErrCourse, "A": api.OK, "1": api.OK, "1A": api.OK, "ABCDEFGH": api.OK, "ABCDEFGHI": api.ErrCourse, "a1": api.ErrCourse, "A1 ": api.ErrCourse} {
		e.Course = code
		wantCheck(t, e, want)
	}
}

// TestMark: P10.1: Key and Mark can be anything.
func TestMark(t *testing.T) {
	for _, e := range rightEntries() {
		for _, mark := range []string{"", "x", "0123456789abcdef", "\x00\xff\n", strings.Repeat("m", 300000)} {
			for _, n := range edges() {
				e.Key, e.Mark = n, mark
				wantCheck(t, e, api.OK)
			}
		}
	}
}

// TestErrorOrder: P10.1: with several faults, the first error counts: each fault stands before all behind it.
func TestErrorOrder(t *testing.T) {
	type fault struct {
		want api.Errno
		make func(e *api.Entry)
	}
	common := []fault{
		{api.ErrArg, func(e *api.Entry) { e.Id = 0 }},
		{api.ErrArg, func(e *api.Entry) { e.School = 9 }},
		{api.ErrArg, func(e *api.Entry) { e.Student = -1 }},
		{api.ErrKind, func(e *api.Entry) { e.Version++ }},
		{api.ErrDate, func(e *api.Entry) { e.Day = -1 }},
		{api.ErrDate, func(e *api.Entry) { e.On = 100001 }},
	}
	own := map[int][]fault{
		api.EnGrade: {
			{api.ErrCourse, func(e *api.Entry) { e.Course = "?" }},
			{api.ErrRange, func(e *api.Entry) { e.Credits = 61 }},
			{api.ErrRange, func(e *api.Entry) { e.Grade = -1001 }},
		},
		api.EnCorrect: {
			{api.ErrRange, func(e *api.Entry) { e.Grade = 1001 }},
			{api.ErrRef, func(e *api.Entry) { e.Ref = -3 }},
		},
		api.EnMove: {{api.ErrRange, func(e *api.Entry) { e.From = 9 }}},
		api.EnEnd:  {{api.ErrRef, func(e *api.Entry) { e.Ref = 900000 }}},
	}
	for kind, l := range own {
		all := append(append([]fault{}, common...), l...)
		for set := range 1 << len(all) {
			e := rightEntries()[kind-1]
			want := api.OK
			for i := len(all) - 1; i >= 0; i-- {
				if set>>i&1 == 1 {
					all[i].make(&e)
					want = all[i].want
				}
			}
			wantCheck(t, e, want)
		}
	}
}

// TestCheckAll: P10.1: every kind with every pair of numbers in every pair of fields, against the second reading.
func TestCheckAll(t *testing.T) {
	few := []int{math.MinInt, -1001, -1000, -1, 0, 1, 8, 9, 60, 61, 120, 1000, 1001, 100000, 100001, 899999, 900000, 999999, 1000000, math.MaxInt}
	all := slots()
	for _, e := range rightEntries() {
		for i, x := range all {
			for _, n := range edges() {
				one := changed(e, x, n)
				wantCheck(t, one, modelCheck(one))
			}
			for _, y := range all[:i] {
				for _, n := range few {
					for _, m := range few {
						two := changed(changed(e, x, n), y, m)
						wantCheck(t, two, modelCheck(two))
					}
				}
			}
		}
		for kind := range 12 {
			// The fields of each kind, under each other one.
			other := changed(e, named("Kind"), kind)
			wantCheck(t, other, modelCheck(other))
		}
	}
	for _, e := range wrongEntries() {
		wantCheck(t, e, modelCheck(e))
	}
}

// TestFilled: P10.1: each kind with each set of fields that are filled.
func TestFilled(t *testing.T) {
	for kind := -1; kind <= 11; kind++ {
		for set := range 1 << 7 {
			for _, n := range []int{1, 2, -1} {
				e := api.Entry{Id: 9, School: 6, Student: 4, Kind: kind, Day: 3, On: 3}
				if set&1 == 1 {
					e.Course = "A1"
				}
				for i, p := range []*int{&e.Credits, &e.Grade, &e.Ref, &e.From, &e.Programme, &e.Version} {
					if set>>(i+1)&1 == 1 {
						*p = n
					}
				}
				wantCheck(t, e, modelCheck(e))
			}
		}
	}
}
