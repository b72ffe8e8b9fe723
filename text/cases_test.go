package text_test

import (
	"fmt"
	"math"
	"math/rand"
	"slices"
	"strings"

	"quadrivium/api"
)

// set are the courses that s has, with blanks between them.
func set(s string) []api.Course {
	var l []api.Course
	for word := range strings.FieldsSeq(s) {
		school, code, _ := strings.Cut(word, ":")
		l = append(l, api.Course{School: of(school), Code: code})
	}
	return l
}

func one(min int, courses string) api.Need {
	return api.Need{Kind: api.NeedCourse, Min: min, Set: set(courses)}
}

func credits(n, min int, courses string) api.Need {
	return api.Need{Kind: api.NeedCredits, N: n, Min: min, Set: set(courses)}
}

func every(l ...api.Need) api.Need {
	return api.Need{Kind: api.NeedAll, L: l}
}

func some(n int, l ...api.Need) api.Need {
	return api.Need{Kind: api.NeedSome, N: n, L: l}
}

// leaves are n leaves of both Kinds.
func leaves(n int) []api.Need {
	var l []api.Need
	for i := range n {
		courses := fmt.Sprintf("%d:A%d 8:B", 1+i%7, i)
		if i%2 == 0 {
			l = append(l, one(i-3, courses))
		} else {
			l = append(l, credits(i, 10*i, courses))
		}
	}
	return l
}

// chain is a requirement of this depth, with bottom on its lowest level.
func chain(depth int, bottom ...api.Need) api.Need {
	n := every(bottom...)
	for level := 2; level < depth; level++ {
		if level%2 == 0 {
			n = some(1, n)
		} else {
			n = every(n)
		}
	}
	return n
}

// longest has the longest text that a right requirement has: as many nodes, leaves and courses as there can be, each as long as it can be. (As each node has a leaf, no N of NeedSome has two digits.)
func longest() api.Need {
	courses := ""
	for i := range 12 {
		courses += fmt.Sprintf(" 8:ABCDEF%02d", i)
	}
	leaf := credits(600, -1000, courses)
	// 8 nodes that have a leaf each, of which 6 are within another one.
	below := slices.Repeat([]api.Need{some(1, leaf)}, 8)
	for i := range 6 {
		below[i] = some(1, below[i])
	}
	return some(1, some(8, below...))
}

// endless lie within themselves.
func endless() []api.Need {
	a := some(1, one(0, "1:A"))
	a.L[0] = a
	b := every(one(0, "1:A"), one(0, "1:B"))
	b.L[1] = b
	c := one(0, "1:A")
	c.L = []api.Need{c}
	c.L[0] = c
	return []api.Need{a, b, c}
}

// rightNeeds are right, each in a way of its own.
func rightNeeds() []api.Need {
	return []api.Need{
		one(50, "1:A1 1:B1"), credits(12, 0, "2:B2"), some(1, one(50, "1:A1 1:B1"), credits(12, 0, "2:B2")), every(one(-3, "1:A1")), one(0, "1:A"), credits(1, 0, "8:ABCDEFGH"), one(-1000, "1:0"), one(1000, "1:0"), credits(600, -1000, "1:0"), credits(600, 1000, "1:0 1:00 1:000"), credits(9, -1, "1:9"), one(-50, "1:OF 1:SOME"), one(10, "1:1 1:11 2:1 2:1A 8:Z"),
		one(1, "1:A 1:B 1:C 1:D 1:E 1:F 1:G 1:H 1:I 1:J 1:K 1:L"), credits(100, 100, "1:A 2:A 3:A 4:A 5:A 6:A 7:A 8:A 8:B 8:C 8:D 8:E"), every(one(1, "1:A")), some(1, one(1, "1:A")), some(1, credits(1, 1, "1:A")), every(credits(1, 1, "1:A")), every(leaves(8)...), some(8, leaves(8)...), some(3, leaves(7)...), some(1, leaves(2)...), every(one(1, "1:A"), one(1, "1:A")),
		every(every(one(1, "1:A")), one(2, "1:B")), every(one(2, "1:B"), every(one(1, "1:A"))), some(1, some(1, one(1, "1:A")), some(2, one(1, "1:A"), one(1, "1:A"))), every(some(1, one(1, "1:A")), every(one(1, "1:A")), some(1, every(one(1, "1:A"), some(2, credits(2, 1, "1:B"), credits(2, 1, "1:B"))), one(5, "1:C")), one(4, "1:A")),
		chain(2, leaves(3)...), chain(3, leaves(3)...), chain(4, leaves(3)...), chain(5, leaves(1)...), chain(5, leaves(8)...), every(chain(4, leaves(4)...), chain(3, leaves(2)...), one(7, "3:C")), longest(),
	}
}

// wrongNeeds are not right, each for a fault of its own, or for several.
func wrongNeeds() []api.Need {
	deep := one(0, "1:A")
	for range 100000 {
		deep = every(deep)
	}
	return append(endless(), []api.Need{
		{}, {Kind: 5, Set: set("1:A")}, {Kind: -1}, {Kind: 0, Min: 50, Set: set("1:A")}, {Kind: api.NeedCourse}, {Kind: api.NeedCredits}, every(), some(0), some(1), every(every()), every(one(0, "1:A"), every()), deep, {Kind: math.MaxInt, N: math.MinInt, Min: math.MaxInt, Set: []api.Course{{School: math.MinInt, Code: "\xff"}}, L: []api.Need{{}}},
		one(0, ""), one(0, "1:B 1:A"), one(0, "1:A 1:A"), one(0, "2:A 1:B"), one(0, "1:a"), one(0, "1:"), one(0, "1:A-B"), one(0, "1:A:B"), one(0, "9:A"), one(0, "0:A"), one(0, "-1:A"), one(0, "1:ABCDEFGHI"), one(0, "1:É"), one(1001, "1:A"), one(-1001, "1:A"), one(0, strings.Repeat("1:A ", 13)), one(math.MinInt, "1:A"),
		credits(0, 0, "1:A"), credits(601, 0, "1:A"), credits(-1, 0, "1:A"), credits(1, 1001, "1:A"), credits(1, 0, ""), credits(1, 0, "1:B 1:A"), some(0, one(0, "1:A")), some(2, one(0, "1:A")), some(-1, one(0, "1:A")), some(math.MaxInt, one(0, "1:A")),
		{Kind: api.NeedCourse, N: 1, Set: set("1:A")}, {Kind: api.NeedCourse, Set: set("1:A"), L: leaves(1)}, {Kind: api.NeedCredits, N: 1, Set: set("1:A"), L: leaves(1)}, {Kind: api.NeedAll, N: 1, L: leaves(1)}, {Kind: api.NeedAll, Min: 1, L: leaves(1)}, {Kind: api.NeedAll, Set: set("1:A"), L: leaves(1)}, {Kind: api.NeedSome, N: 1, Min: -1, L: leaves(1)}, {Kind: api.NeedSome, N: 1, Set: set("1:A"), L: leaves(1)},
		every(leaves(9)...), chain(6, leaves(1)...), every(slices.Repeat([]api.Need{some(1, every(one(0, "1:A")))}, 8)...), every(one(0, "1:A"), one(0, "1:B"), one(0, "1:b")), every(leaves(10000)...),
	}...)
}

// arts is a programme with every field.
func arts() api.Programme {
	return api.Programme{School: 3, Id: 41, Version: 2, From: 500, Name: "Arts and (more); 7", Need: every(one(50, "1:A1 1:B1"), some(1, one(-4, "3:C"), credits(12, 0, "2:B2 3:C"))), Total: 60, Own: 30, Age: 6, Exclude: [][2]api.Course{{{School: 1, Code: "A1"}, {School: 3, Code: "C"}}, {{School: 2, Code: "B2"}, {School: 2, Code: "D"}}}}
}

// artsText are the lines of arts.
const artsText = `programme 3 41 version 2 from 500 "Arts and (more); 7"
total 60 own 30 age 6
exclude 1:A1 3:C
exclude 2:B2 2:D
need all (course 50 of 1:A1 1:B1; 1 some (course -4 of 3:C; 12 credits 0 of 2:B2 3:C))
`

// changed is arts after a change.
func changed(change func(p *api.Programme)) api.Programme {
	p := arts()
	change(&p)
	return p
}

func excluding(l ...string) api.Programme {
	return changed(func(p *api.Programme) {
		p.Exclude = nil
		for _, s := range l {
			p.Exclude = append(p.Exclude, [2]api.Course(set(s)))
		}
	})
}

// permitted are all bytes that a name may have, in names that are as long as they may be.
func permitted() []string {
	var l []string
	all := ""
	for b := byte(32); b <= 126; b++ {
		if b != '"' {
			all += string(rune(b))
		}
	}
	for part := range slices.Chunk([]byte(all), 40) {
		l = append(l, string(part))
	}
	return l
}

// largest has the longest text that a right programme has.
func largest() api.Programme {
	p := api.Programme{School: 8, Id: 999999, Version: 20, From: 100000, Name: strings.Repeat("~", 40), Need: longest(), Total: 600, Own: 600, Age: 100}
	for i := range 8 {
		p.Exclude = append(p.Exclude, [2]api.Course(set(fmt.Sprintf("8:ABCDEFG%d 8:ZZZZZZZZ", i))))
	}
	return p
}

// rightProgrammes are right, each in a way of its own.
func rightProgrammes() []api.Programme {
	l := []api.Programme{
		arts(), largest(), {School: 1, Id: 1, Version: 1, Name: "x", Need: one(0, "1:A")}, excluding(), excluding("1:A 1:B"), excluding("2:B 8:A", "1:A 1:B", "1:A 1:C"), excluding("1:A 1:B", "1:A 1:C", "1:A 1:D", "1:A 1:E", "1:A 1:F", "1:A 1:G", "1:A 1:H", "1:A 1:I"), changed(func(p *api.Programme) { p.Total, p.Own, p.Age = 0, 600, 100 }), changed(func(p *api.Programme) { p.From = 0 }), changed(func(p *api.Programme) { p.Name = "need course 0 of 1:A" }), changed(func(p *api.Programme) { p.Name = " " }), changed(func(p *api.Programme) { p.Name = "'a\\nb'  c\\" }),
	}
	for _, name := range permitted() {
		l = append(l, changed(func(p *api.Programme) { p.Name = name }))
	}
	for _, n := range rightNeeds() {
		l = append(l, changed(func(p *api.Programme) { p.Need = n }))
	}
	return l
}

// wrongProgrammes are not right, each for a fault of its own, or for several.
func wrongProgrammes() []api.Programme {
	l := []api.Programme{
		{}, changed(func(p *api.Programme) { p.School = 0 }), changed(func(p *api.Programme) { p.School = 9 }), changed(func(p *api.Programme) { p.Id = 0 }), changed(func(p *api.Programme) { p.Id = 1000000 }), changed(func(p *api.Programme) { p.Version = 21 }), changed(func(p *api.Programme) { p.Version = 0 }), changed(func(p *api.Programme) { p.From = -1 }), changed(func(p *api.Programme) { p.From = 100001 }), changed(func(p *api.Programme) { p.Total = 601 }), changed(func(p *api.Programme) { p.Own = -1 }), changed(func(p *api.Programme) { p.Age = 101 }), changed(func(p *api.Programme) { p.School, p.Id, p.From = math.MinInt, math.MaxInt, math.MinInt }),
		changed(func(p *api.Programme) { p.Name = "" }), changed(func(p *api.Programme) { p.Name = "a\"b" }), changed(func(p *api.Programme) { p.Name = "a\nb" }), changed(func(p *api.Programme) { p.Name = "É" }), changed(func(p *api.Programme) { p.Name = strings.Repeat("n", 41) }), changed(func(p *api.Programme) { p.Name = strings.Repeat("n", 5000) }),
		excluding("1:A 1:A"), excluding("1:B 1:A"), excluding("1:A 1:b"), excluding("0:A 1:B"), excluding("1:A 1:B", "1:A 1:B"), excluding(slices.Repeat([]string{"1:A 1:B"}, 9)...), changed(func(p *api.Programme) { p.Exclude = make([][2]api.Course, 8) }), changed(func(p *api.Programme) { p.Exclude, p.School = make([][2]api.Course, 9), 9 }),
	}
	for _, n := range wrongNeeds() {
		l = append(l, changed(func(p *api.Programme) { p.Need = n }))
	}
	return l
}

// randomNeed is a requirement of up to this depth, with up to 2 elements in each list. It is right, unless it has too many leaves.
func randomNeed(r *rand.Rand, depth int) api.Need {
	kind := 1 + r.Intn(4)
	if depth == 1 {
		kind = 1 + r.Intn(2)
	}
	if kind <= 2 {
		n := api.Need{Kind: kind, Min: r.Intn(2001) - 1000, Set: randomSet(r)}
		if kind == 2 {
			n.N = 1 + r.Intn(600)
		}
		return n
	}
	n := api.Need{Kind: kind}
	for range 1 + r.Intn(2) {
		n.L = append(n.L, randomNeed(r, depth-1))
	}
	if kind == 4 {
		n.N = 1 + r.Intn(len(n.L))
	}
	return n
}

// randomSet are a few courses, in order.
func randomSet(r *rand.Rand) []api.Course {
	var l []api.Course
	school := 1
	for range 1 + r.Intn(4) {
		code := ""
		for range 1 + r.Intn(8) {
			code += string("ABCDEFGHIJKLMNOPQRSTUVWXYZ0123456789"[r.Intn(36)])
		}
		l = append(l, api.Course{School: school, Code: code})
		school++
	}
	return l
}
