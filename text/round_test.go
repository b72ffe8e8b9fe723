package text_test

import (
	"fmt"
	"math/rand"
	"testing"

	"quadrivium/api"
	"quadrivium/need"
	"quadrivium/text"
)

// TestRound: P9.5: what is written is read as the same.
func TestRound(t *testing.T) {
	r := rand.New(rand.NewSource(5))
	l := rightNeeds()
	for range 10000 {
		if n := randomNeed(r, 1+r.Intn(5)); need.Check(n) == api.OK {
			l = append(l, n)
		}
	}
	for _, n := range l {
		s, _ := text.WriteNeed(n)
		readNeed(t, s, n)
		p := changed(func(p *api.Programme) { p.Need = n })
		s, _ = text.Write(p)
		readAll(t, s, p)
	}
	for _, p := range rightProgrammes() {
		s, _ := text.Write(p)
		readAll(t, s, p)
	}
}

// TestRoundOfTexts: P9.5 and P9.6: what is read is written in the one way of Write, which is read as the same.
func TestRoundOfTexts(t *testing.T) {
	r := rand.New(rand.NewSource(55))
	for _, n := range rightNeeds() {
		for range 20 {
			got, _ := text.ReadNeed(loosely(r, modelNeed(n)))
			writeNeed(t, got, modelNeed(n))
		}
	}
	for _, p := range rightProgrammes() {
		for range 20 {
			got, _ := text.Read(loosely(r, modelProgramme(p)))
			writeAll(t, got, modelProgramme(p))
		}
	}
}

// TestDifferent: P9.5: different ones have different texts, among them those that differ in one field alone.
func TestDifferent(t *testing.T) {
	needs := map[string]api.Need{}
	for _, n := range append(rightNeeds(), nearNeeds()...) {
		s, err := text.WriteNeed(n)
		if other, there := needs[s]; err != api.OK || there && !need.Same(n, other) {
			t.Errorf("%v and %v have the text %q, %d", n, other, s, err)
		}
		needs[s] = n
	}
	all := map[string]api.Programme{}
	for _, p := range append(rightProgrammes(), nearProgrammes()...) {
		s, err := text.Write(p)
		if other, there := all[s]; err != api.OK || there && !need.SameAll(p, other) {
			t.Errorf("%v and %v have the text %q, %d", p, other, s, err)
		}
		all[s] = p
	}
}

// nearNeeds are right requirements, of which any two differ, many in one field alone.
func nearNeeds() []api.Need {
	l := []api.Need{one(1, "1:A"), one(-1, "1:A"), one(11, "1:A"), one(1, "1:B"), one(1, "2:A"), one(1, "1:A 1:B"), one(1, "1:AB"), one(1, "1:A 2:B"), credits(1, 1, "1:A"), credits(11, 1, "1:A"), credits(1, 11, "1:A"), credits(1, -1, "1:A"), credits(1, 1, "1:A 1:B")}
	a, b := l[0], l[3]
	return append(l, every(a), some(1, a), every(a, a), some(1, a, a), some(2, a, a), every(a, b), every(b, a), every(every(a), b), every(a, every(b)), every(every(a, b)), some(1, every(a), b), every(some(1, a), b), every(some(1, a, b)), some(1, some(1, a, b)), some(1, some(2, a, b)), some(1, some(1, a), b), some(2, some(1, a), b))
}

// nearProgrammes are arts after one change each, of one field.
func nearProgrammes() []api.Programme {
	l := []api.Programme{changed(func(p *api.Programme) { p.School = 1 }), changed(func(p *api.Programme) { p.Id = 11 }), changed(func(p *api.Programme) { p.Version = 11 }), changed(func(p *api.Programme) { p.From = 11 }), changed(func(p *api.Programme) { p.Total = 11 }), changed(func(p *api.Programme) { p.Own = 11 }), changed(func(p *api.Programme) { p.Age = 11 })}
	for _, name := range []string{"A", "a", "A ", " A", "AA", "A\\n", "A;", ";"} {
		l = append(l, changed(func(p *api.Programme) { p.Name = name }))
	}
	for _, n := range nearNeeds() {
		l = append(l, changed(func(p *api.Programme) { p.Need = n }))
	}
	for i := range 8 {
		pair := fmt.Sprintf("1:A 1:B%d", i)
		l = append(l, excluding(pair), excluding("1:A 1:B", pair), excluding(pair, "1:A 1:B"))
	}
	return append(l, excluding("1:A 2:A"), excluding("1:A 2:A", "1:A 3:A"), excluding("1:A 3:A", "1:A 2:A"), excluding("1:A 2:A", "2:A 3:A"))
}
