package text_test

import (
	"math/rand"
	"strings"
	"testing"

	"quadrivium/api"
	"quadrivium/need"
	"quadrivium/text"
)

// spaces stand between tokens.
func spaces() []string {
	return []string{" ", "\n", "  ", "\n\n", " \n", "\n ", " \n \n  \n\n"}
}

// inWord reports whether a token is a word.
func inWord(token string) bool {
	return !strings.ContainsAny(token, "();\"")
}

// tightly joins tokens with blanks where there must be some alone: between two words.
func tightly(tokens []string) string {
	s := ""
	for i, token := range tokens {
		if i > 0 && inWord(tokens[i-1]) && inWord(token) {
			s += " "
		}
		s += token
	}
	return s
}

// TestSpaces: P9.6: blanks and line ends between tokens, before the first and behind the last one, change nothing; nor does it where there are none, where there need be none.
func TestSpaces(t *testing.T) {
	for _, n := range rightNeeds() {
		tokens, _ := modelTokens(modelNeed(n))
		readNeed(t, tightly(tokens), n)
		for _, space := range spaces() {
			readNeed(t, strings.Join(tokens, space), n)
			readNeed(t, space+tightly(tokens)+space, n)
			for i := range len(tokens) + 1 {
				readNeed(t, tightly(tokens[:i])+space+tightly(tokens[i:]), n)
			}
		}
	}
	for _, p := range rightProgrammes() {
		tokens, _ := modelTokens(modelProgramme(p))
		readAll(t, tightly(tokens), p)
		for _, space := range spaces() {
			readAll(t, strings.Join(tokens, space), p)
			readAll(t, space+tightly(tokens)+space, p)
			for i := range len(tokens) + 1 {
				readAll(t, tightly(tokens[:i])+space+tightly(tokens[i:]), p)
			}
		}
	}
}

// TestSpacesWithin: a blank, or a line end, within a word divides it; within a string the one belongs to the name, and the other one leaves no string.
func TestSpacesWithin(t *testing.T) {
	const s = "all (course -50 of 1:A1; 12 credits 100 of 2:B)"
	tokens, _ := modelTokens(s)
	for i, token := range tokens {
		for at := 1; at < len(token); at++ {
			for _, space := range spaces() {
				divided := strings.Join(tokens[:i], " ") + " " + token[:at] + space + token[at:] + " " + strings.Join(tokens[i+1:], " ")
				refuseNeed(t, divided, api.ErrForm)
				compareNeed(t, divided)
			}
		}
	}
	refuseNeed(t, "course 0 of 1: A", api.ErrForm)
	refuseNeed(t, "course 0 of 1 :A", api.ErrForm)
	refuseNeed(t, "course 0 of 1: 2:A", api.ErrArg)
	readAll(t, strings.Replace(artsText, "Arts", " A r  ts ", 1), changed(func(p *api.Programme) { p.Name = " A r  ts  and (more); 7" }))
	refuseAll(t, strings.Replace(artsText, "Arts", "Ar\nts", 1), api.ErrForm)
	refuseAll(t, strings.Replace(artsText, "Arts", "\nArts", 1), api.ErrForm)
}

// TestSpacesRandom: P9.6 for random right requirements and programmes, with random blanks and line ends.
func TestSpacesRandom(t *testing.T) {
	r := rand.New(rand.NewSource(6))
	for range 5000 {
		n := randomNeed(r, 1+r.Intn(5))
		if need.Check(n) != api.OK {
			continue
		}
		p := changed(func(p *api.Programme) { p.Need = n })
		readNeed(t, loosely(r, modelNeed(n)), n)
		readAll(t, loosely(r, modelProgramme(p)), p)
	}
}

// loosely is s with other blanks and line ends.
func loosely(r *rand.Rand, s string) string {
	tokens, _ := modelTokens(s)
	s = ""
	for i, token := range tokens {
		if i > 0 && inWord(tokens[i-1]) && inWord(token) {
			s += spaces()[r.Intn(7)]
		}
		s += strings.Repeat(spaces()[r.Intn(2)], r.Intn(3)) + token
	}
	return s + strings.Repeat("\n", r.Intn(3))
}

// TestSizes: P9.3, P9.4 and P9.6: texts that are made longer by blanks, or by line ends, are read up to 4096 bytes.
func TestSizes(t *testing.T) {
	const s = "course 50 of 1:A"
	for size := 4090; size <= 4100; size++ {
		for _, space := range []string{" ", "\n"} {
			for _, at := range []int{0, 6, 13, len(s)} {
				long := s[:at] + strings.Repeat(space, size-len(s)) + s[at:]
				if size <= 4096 {
					readNeed(t, long, one(50, "1:A"))
				} else {
					refuseNeed(t, long, api.ErrMany)
				}
			}
			for _, at := range []int{0, strings.Index(artsText, "\n"), len(artsText)} {
				long := artsText[:at] + strings.Repeat(space, size-len(artsText)) + artsText[at:]
				if size <= 4096 {
					readAll(t, long, arts())
				} else {
					refuseAll(t, long, api.ErrMany)
				}
			}
		}
	}
}

// TestSizesOfTokens: P9.3 and P9.4: texts that are made longer by tokens are looked at up to 4096 bytes.
func TestSizesOfTokens(t *testing.T) {
	for size := 4090; size <= 4100; size++ {
		for _, x := range []struct {
			s, more string
			want    api.Errno
		}{
			{"course 50 of 1:a 1:", "A", api.ErrArg}, {"course 50 of -1:", ":", api.ErrArg}, {"course 50 of ", "1", api.ErrForm}, {"all(", ";", api.ErrForm}, {"course 50 of 1:A", ")", api.ErrForm}, {"x", "y", api.ErrForm}, {"1", "0", api.ErrForm}, {"", "\"", api.ErrForm}, {"\"", "x", api.ErrForm}, {"", "\x00", api.ErrForm},
		} {
			want := x.want
			if size > 4096 {
				want = api.ErrMany
			}
			refuseNeed(t, x.s+strings.Repeat(x.more, size-len(x.s)), want)
		}
		want := api.ErrArg
		if size > 4096 {
			want = api.ErrMany
		}
		refuseAll(t, strings.Replace(artsText, "Arts", strings.Repeat("N", size-len(artsText)+4), 1), want)
		refuseAll(t, strings.Replace(artsText, "2:D", "2:"+strings.Repeat("D", size-len(artsText)+1), 1), want)
	}
}

// TestLongest: P9.3 to P9.5: no text that is written is too long to be read.
func TestLongest(t *testing.T) {
	n, p := longest(), largest()
	if need.Size(n) != 24 || len(need.Leaves(n)) != 8 {
		t.Fatalf("%d nodes, and %d leaves", need.Size(n), len(need.Leaves(n)))
	}
	s, _ := text.WriteNeed(n)
	all, _ := text.Write(p)
	if len(s) != 1374 || len(all) > 4096 || len(s) >= len(all) {
		t.Errorf("the longest texts have %d and %d bytes", len(s), len(all))
	}
	readNeed(t, s, n)
	readAll(t, all, p)
	for _, n := range rightNeeds() {
		if got, _ := text.WriteNeed(n); len(got) > len(s) {
			t.Errorf("%q is longer than the longest one", got)
		}
	}
	for _, p := range rightProgrammes() {
		if got, _ := text.Write(p); len(got) > len(all) {
			t.Errorf("%q is longer than the longest one", got)
		}
	}
}
