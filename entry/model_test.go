package entry_test

import (
	"fmt"
	"math"
	"slices"
	"strconv"
	"strings"

	"quadrivium/api"
)

// slot is a number of an entry, by its name in the chapter.
type slot struct {
	name string
	of   func(e *api.Entry) *int
}

// slots are all the numbers of an entry.
func slots() []slot {
	return []slot{
		{"Id", func(e *api.Entry) *int { return &e.Id }},
		{"School", func(e *api.Entry) *int { return &e.School }},
		{"Student", func(e *api.Entry) *int { return &e.Student }},
		{"Kind", func(e *api.Entry) *int { return &e.Kind }},
		{"Day", func(e *api.Entry) *int { return &e.Day }},
		{"On", func(e *api.Entry) *int { return &e.On }},
		{"Credits", func(e *api.Entry) *int { return &e.Credits }},
		{"Grade", func(e *api.Entry) *int { return &e.Grade }},
		{"Ref", func(e *api.Entry) *int { return &e.Ref }},
		{"From", func(e *api.Entry) *int { return &e.From }},
		{"Programme", func(e *api.Entry) *int { return &e.Programme }},
		{"Version", func(e *api.Entry) *int { return &e.Version }},
		{"Key", func(e *api.Entry) *int { return &e.Key }},
	}
}

// modelHas is the words of the chapter, kind by kind.
func modelHas(kind int) string {
	return []string{"", "Programme", "Programme Version", "Course Credits Grade", "Ref Grade", "Ref", "Ref", "From", "Programme", "Ref"}[kind]
}

// modelCheck is the second reading of P10.1.
func modelCheck(e api.Entry) api.Errno {
	if e.Id < 1 || e.Id > 899999 || e.School < 1 || e.School > 8 || e.Student < 1 || e.Student > 999999 {
		return 1
	}
	if e.Kind < 1 || e.Kind > 9 {
		return 20
	}
	has := strings.Fields(modelHas(e.Kind))
	filled := map[string]bool{
		"Course": e.Course != "", "Credits": e.Credits != 0, "Grade": e.Grade != 0, "Ref": e.Ref != 0,
		"From": e.From != 0, "Programme": e.Programme != 0, "Version": e.Version != 0,
	}
	for name, is := range filled {
		if is && !slices.Contains(has, name) {
			return 20
		}
	}
	if e.Day < 0 || e.Day > 100000 || e.On < 0 || e.On > 100000 || e.On > e.Day {
		return 23
	}
	// The kinds have their fields in groups, and each group is checked as the chapter has it.
	switch e.Kind {
	case 1, 8:
		if e.Programme < 1 {
			return 3
		}
	case 2:
		if e.Programme < 1 || e.Version < 1 {
			return 3
		}
	case 3:
		if e.Course == "" || len(e.Course) > 8 || strings.Trim(e.Course, "ABCDEFGHIJKLMNOPQRSTUVWXYZ0123456789") != "" || strings.ContainsAny(e.Course, "\x00 -") {
			return 12
		}
		if e.Credits < 1 || e.Credits > 60 || e.Grade < -1000 || e.Grade > 1000 {
			return 3
		}
	case 4:
		if e.Grade < -1000 || e.Grade > 1000 {
			return 3
		}
		if e.Ref < 1 || e.Ref > 899999 || e.Ref == e.Id {
			return 21
		}
	case 5, 6, 9:
		if e.Ref < 1 || e.Ref > 899999 || e.Ref == e.Id {
			return 21
		}
	case 7:
		if e.From < 1 || e.From > 8 || e.From == e.School {
			return 3
		}
	}
	return 0
}

// modelBody is the second reading of P10.2.
func modelBody(e api.Entry) string {
	return fmt.Sprintf("%d;%d;%d;%d;%d;%d;%d:%s%d;%d;%d;%d;%d;%d;%d;", e.Id, e.School, e.Student, e.Kind, e.Day, e.On,
		len(e.Course), e.Course, e.Credits, e.Grade, e.Ref, e.From, e.Programme, e.Version, e.Key)
}

func modelEncode(e api.Entry) string {
	return modelBody(e) + strconv.Itoa(len(e.Mark)) + ":" + e.Mark
}

// modelDecode finds an entry that could be in s, however its numbers are written, and asks modelEncode.
func modelDecode(s string) (api.Entry, api.Errno) {
	if len(s) > 262144 {
		return api.Entry{}, 2
	}
	var e api.Entry
	good, rest := true, s
	upTo := func(end string) int {
		form, behind, found := strings.Cut(rest, end)
		n, err := strconv.Atoi(form)
		good, rest = good && found && err == nil, behind
		return n
	}
	text := func() string {
		n := upTo(":")
		good = good && n >= 0 && n <= len(rest)
		if !good {
			return ""
		}
		t := rest[:n]
		rest = rest[n:]
		return t
	}
	for i, x := range slots() {
		if i == 6 {
			e.Course = text()
		}
		*x.of(&e) = upTo(";")
	}
	e.Mark = text()
	if !good || modelEncode(e) != s {
		return api.Entry{}, 4
	}
	return e, 0
}

// modelKey is the second reading of P10.3.
func modelKey(e api.Entry) string {
	if modelCheck(e) != 0 {
		return ""
	}
	return fmt.Sprintf("%06d %06d %06d %d", e.Student, e.On, e.Id, e.Kind)
}

func modelLess(a, b api.Entry) bool {
	return a.Student < b.Student || a.Student == b.Student && (a.On < b.On || a.On == b.On && a.Id < b.Id)
}

// example is the entry of the chapter's examples.
func example() api.Entry {
	return api.Entry{Id: 7, School: 1, Student: 5, Kind: api.EnGrade, Day: 120, On: 100, Course: "A1", Credits: 5, Grade: 80}
}

// rightEntries has a right entry of each kind, in their order.
func rightEntries() []api.Entry {
	return []api.Entry{
		{Id: 1, School: 1, Student: 1, Kind: api.EnEnrol, Day: 10, On: 10, Programme: 1},
		{Id: 2, School: 8, Student: 999999, Kind: api.EnChoose, Day: 100000, On: 0, Programme: 3, Version: 2, Key: 4, Mark: "m"},
		example(),
		{Id: 899999, School: 2, Student: 42, Kind: api.EnCorrect, Day: 95, On: 60, Ref: 7, Grade: -40},
		{Id: 20, School: 3, Student: 77, Kind: api.EnFinding, Day: 0, On: 0, Ref: 899999, Mark: "\x00\xff;1:"},
		{Id: 21, School: 4, Student: 77, Kind: api.EnLift, Day: 100000, On: 100000, Ref: 20, Key: -5},
		{Id: 300, School: 5, Student: 1000, Kind: api.EnMove, Day: 31, On: 30, From: 4},
		{Id: 4000, School: 6, Student: 10, Kind: api.EnAward, Day: 70, On: 70, Programme: math.MaxInt},
		{Id: 50000, School: 7, Student: 100000, Kind: api.EnEnd, Day: 71, On: 9, Ref: 1, Key: math.MaxInt, Mark: strings.Repeat("=", 300)},
	}
}

// changed returns e with this number in a slot.
func changed(e api.Entry, x slot, n int) api.Entry {
	*x.of(&e) = n
	return e
}

// named returns the slot with this name.
func named(name string) slot {
	l := slots()
	return l[slices.IndexFunc(l, func(x slot) bool { return x.name == name })]
}

// edges are numbers around all the bounds that the chapter has, and the ends of the type.
func edges() []int {
	return []int{
		math.MinInt, math.MinInt + 1, -1001, -1000, -999, -2, -1, 0, 1, 2, 3, 4, 5, 6, 7, 8, 9, 10, 59, 60, 61, 119, 120, 121, 999, 1000, 1001,
		99999, 100000, 100001, 899998, 899999, 900000, 999998, 999999, 1000000, math.MaxInt - 1, math.MaxInt,
		// These are right ones, if only the last bits of a number count.
		1<<8 + 1, 1<<16 + 1, 1<<32 + 1, -1<<32 + 1,
	}
}

// codes are strings that are codes, or nearly.
func codes() []string {
	return []string{
		"", "A", "1", "A1", "1A", "ABCDEFGH", "12345678", "ABCDEFGHI", "123456789", "a1", "A1b", "aB", "A 1", " A1", "A1 ", "A-1", "\x00", "A\x00", "A1\n",
		"À", "/", ":", "@", "[", "0", "9", "Z", "`", "{", "\xff", strings.Repeat("A", 300),
	}
}

// wrongEntries has many entries that are not right, with one fault or two.
func wrongEntries() []api.Entry {
	var l []api.Entry
	for _, e := range rightEntries() {
		for _, x := range slots() {
			for _, n := range edges() {
				l = append(l, changed(e, x, n), changed(changed(e, x, n), named("Day"), -n), changed(changed(e, x, n), named("Ref"), n))
			}
		}
		for _, code := range codes() {
			e.Course = code
			l = append(l, e)
		}
	}
	l = append(l, api.Entry{}, api.Entry{Course: "A1"}, api.Entry{Mark: "x"}, api.Entry{Key: 3})
	return slices.DeleteFunc(l, func(e api.Entry) bool { return modelCheck(e) == 0 })
}
