package text_test

import (
	"math/rand"
	"slices"
	"strings"
	"testing"

	"quadrivium/api"
)

// TestReadNeed: P9.3: texts of each Kind, with the examples of the chapter, and those of right requirements.
func TestReadNeed(t *testing.T) {
	for s, want := range map[string]api.Need{
		"course 50 of 1:A1 1:B1": one(50, "1:A1 1:B1"), "12 credits 0 of 2:B2": credits(12, 0, "2:B2"), "all(course -3 of 1:A1)": every(one(-3, "1:A1")), "1 some(course 0 of 1:A;course 0 of 1:A)": some(1, one(0, "1:A"), one(0, "1:A")), "all(1 some(1 credits -1 of 1:A);course 1 of 1:B)": every(some(1, credits(1, -1, "1:A")), one(1, "1:B")),
	} {
		readNeed(t, s, want)
	}
	for _, n := range rightNeeds() {
		readNeed(t, modelNeed(n), n)
	}
}

// TestReadNeedForm: P9.3: tokens that are not those of a text.
func TestReadNeedForm(t *testing.T) {
	for _, s := range []string{
		"", " ", "\n", " \n\n ", strings.Repeat(" ", 4096), "(", ")", ";", "()", "1", "-1", "1:A", "x", "of", "some", "credits", "course", "all", "need", `""`, `"a"`, `"course 50 of 1:A"`,
		"course 50", "course of", "course of 1:A", "course 50 1:A", "course 50 of of 1:A", "course 50 50 of 1:A", "course 50 of 1:A of", "course 50 of 50 1:A", "course 50 of 1:A 50", "course 1:A of 1:A", "course 50 of (1:A)", "course 50 of 1:A; 1:B", "(course 50 of 1:A)", "course 50 of 1:A;", ";course 50 of 1:A", "course (50) of 1:A", "1 course 50 of 1:A", "course course 50 of 1:A", "course 50 of 1:A course 50 of 1:B", `course 50 of "1:A"`, `"course" 50 of 1:A`, `course 50 of 1:A ""`, `course 50 of 1:A "`, "course50 of 1:A", "course 50of 1:A", "course 50 of1:A", "course 50 of 1:A1:B course", "Course 50 of 1:A", "COURSE 50 OF 1:A", "course 50 Of 1:A", "courses 50 of 1:A", "cours 50 of 1:A",
		"credits 5 of 1:A", "5 credits of 1:A", "5 credits 0 1:A", "5 0 of 1:A", "5 of 1:A", "5 credits 0 of 1:A;", "5 5 credits 0 of 1:A", "5 credits credits 0 of 1:A", "1:A credits 0 of 1:A", "5credits 0 of 1:A", "5 credits0 of 1:A", "5 Credits 0 of 1:A", "5 credit 0 of 1:A", "5 course 0 of 1:A", "5 all (course 0 of 1:A)", "(5) credits 0 of 1:A", "5 ( credits 0 of 1:A)",
		"all", "all (", "all )", "all course 50 of 1:A", "all (course 50 of 1:A", "all course 50 of 1:A)", "all (course 50 of 1:A))", "all ((course 50 of 1:A))", "all ((course 50 of 1:A)", "all () ()", "all ())", "all (;)", "all (;course 50 of 1:A)", "all (course 50 of 1:A;)", "all (course 50 of 1:A;;course 50 of 1:B)", "all (course 50 of 1:A;course 50 of 1:B;)", "all (;;)", "all (course 50 of 1:A course 50 of 1:B)", "all (1:A)", "all (50)", "all [course 50 of 1:A]", "all all (course 50 of 1:A)", "all (all)", "all (all (course 50 of 1:A)", "all (course 50 of 1:A) all (course 50 of 1:A)", "all (course 50 of 1:A) 1:B", "all (course 50 of 1:A); course 50 of 1:B", "all (course 50 of 1:A)\n;", "allcourse(course 50 of 1:A)", "All (course 50 of 1:A)", "all ()course 50 of 1:A",
		"some (course 50 of 1:A)", "1 some", "1 some (", "1 some )", "1 some (course 50 of 1:A", "1 some course 50 of 1:A", "1 1 some (course 50 of 1:A)", "1:A some (course 50 of 1:A)", "1 some 1 (course 50 of 1:A)", "1 some ((course 50 of 1:A))", "1 some (;course 50 of 1:A)", "1 some (course 50 of 1:A;)", "1some(course 50 of 1:A)", "1 Some (course 50 of 1:A)", "1 (course 50 of 1:A)", "1 some (course 50 of 1:A) of", "all some (course 50 of 1:A)", "1 all (course 50 of 1:A)", "- some (course 50 of 1:A)",
	} {
		refuseNeed(t, s, api.ErrForm)
		compareNeed(t, s)
	}
}

// TestReadNeedSaid: P9.3: texts whose form is right, for each error of what they say, with empty lists and any numbers.
func TestReadNeedSaid(t *testing.T) {
	for want, texts := range map[api.Errno][]string{
		api.ErrMany: {
			"all ()", "all(\n)", "0 some ()", "-5 some ()", "999999999 some ()", "all(all())", "all(all();1 some())", "course 50 of", "course 50 of\n", "1 credits 50 of", "all (course 50 of; course 50 of 1:A)", "all (course 50 of 1:A; course 50 of)", "course 0 of 1:A 1:B 1:C 1:D 1:E 1:F 1:G 1:H 1:I 1:J 1:K 1:L 1:M", "course 0 of 1:B 1:A 1:C 1:D 1:E 1:F 1:G 1:H 1:I 1:J 1:K 1:L 1:m",
			"all(" + strings.Repeat("course 0 of 1:A;", 8) + "course 0 of 1:A)", "all(all(all(all(all(course 0 of 1:A)))))", "all(all(all(all(all()))))", "all(" + strings.Repeat("all(all(all(course 0 of 1:A)));", 6) + "course 0 of 1:A)", "all(" + strings.Repeat("all();", 24) + "course 0 of 1:A)",
		},
		api.ErrNeed: {
			"all(course 0 of 1:A;all())", "all(all();course 0 of 1:A)", "1 some(1 some();course 0 of 1:A)", "all(0 some();course 0 of 1:a)",
		},
		api.ErrRange: {
			"course 1001 of 1:A", "course -1001 of 1:A", "course 999999999 of 1:A", "course -999999999 of", "0 credits 0 of 1:A", "601 credits 0 of 1:A", "-1 credits 0 of 1:A", "1 credits 1001 of 1:A", "0 credits 5000 of 0:",
			"0 some (course 0 of 1:A)", "2 some (course 0 of 1:A)", "-1 some (course 0 of 1:A)", "3 some (course 0 of 1:A; course 0 of 1:B)", "999999999 some (course 0 of 1:A)", "2 some (course 5000 of)",
		},
		api.ErrArg: {
			"course 50 of 1:a1", "course 50 of 1:", "course 50 of 1:A:B", "course 50 of 1::", "course 50 of 1:A-B", "course 50 of 1:-", "course 50 of 1:course", "course 50 of 1:A1:B", "course 50 of 0:A", "course 50 of 9:A", "course 50 of -1:A", "course 50 of 999999999:A", "course 50 of 1:ABCDEFGHI",
			"course 50 of 1:B 1:A 1:a", "course 50 of 1:A 1:B:C 2:D", "all(course 0 of 1:A; 5 credits 0 of 1:of)",
		},
		api.ErrOrder: {
			"course 50 of 1:B 1:A", "course 50 of 1:A 1:A", "5 credits 0 of 2:A 1:B", "all(course 0 of 1:A;course 0 of 1:C 1:B; course 1001 of 1:A)", "course 0 of 1:AA 1:A",
		},
	} {
		for _, s := range texts {
			refuseNeed(t, s, want)
			compareNeed(t, s)
		}
	}
}

// TestReadNeedOrder: P9.3: the length counts before the form, and the form before what is said.
func TestReadNeedOrder(t *testing.T) {
	long := strings.Repeat(" ", 4097)
	for s, want := range map[string]api.Errno{
		long: api.ErrMany, long + "course 50 of 1:A": api.ErrMany, long + "course 5000 of 1:A": api.ErrMany, strings.Repeat("(", 4097): api.ErrMany, strings.Repeat("\x00", 4097): api.ErrMany, strings.Repeat("\"", 1<<20): api.ErrMany, "x" + long: api.ErrMany,
		"course 5000 of 1:A;": api.ErrForm, "all() all()": api.ErrForm, "all(0 some(course 0 of 1:A)": api.ErrForm, "course 0 of 1:B 1:A,": api.ErrForm, "all(all(all(all(all(all(course 0 of 1:A))))))(": api.ErrForm, "course 5000 of 1:a 01:A": api.ErrForm, "0 credits 1001 of 9:A \x7f": api.ErrForm,
	} {
		refuseNeed(t, s, want)
		compareNeed(t, s)
	}
}

// TestReadNeedDeep: P9.3: brackets within brackets, up to as many as a text can have, closed, not closed, and closed twice.
func TestReadNeedDeep(t *testing.T) {
	for _, open := range []string{"all(", "1 some("} {
		for depth := 1; depth <= 500; depth++ {
			s := strings.Repeat(open, depth-1) + "course 0 of 1:A" + strings.Repeat(")", depth-1)
			if depth <= 5 {
				readNeed(t, s, inBrackets(open, depth))
			} else {
				refuseNeed(t, s, api.ErrMany)
			}
			refuseNeed(t, s+")", api.ErrForm)
			refuseNeed(t, "("+s, api.ErrForm)
			refuseNeed(t, open+s, api.ErrForm)
		}
	}
	for _, n := range []int{2, 30, 816, 817} {
		closed := strings.Repeat("all(", n) + strings.Repeat(")", n)
		refuseNeed(t, closed, api.ErrMany)
		refuseNeed(t, closed[:len(closed)-1], api.ErrForm)
		refuseNeed(t, closed[1:], api.ErrForm)
		refuseNeed(t, closed+";", api.ErrForm)
	}
	for _, s := range []string{strings.Repeat("(", 4096), strings.Repeat(")", 4096), strings.Repeat("()", 2048), strings.Repeat("all(", 1024), strings.Repeat("1 some(", 585), strings.Repeat(";", 4096), strings.Repeat("all();", 682), strings.Repeat("(", 2048) + strings.Repeat(")", 2048)} {
		refuseNeed(t, s, api.ErrForm)
	}
}

// inBrackets is the requirement of this depth with one leaf, and one Kind of nodes above it.
func inBrackets(open string, depth int) api.Need {
	n := one(0, "1:A")
	for range depth - 1 {
		if open == "all(" {
			n = every(n)
		} else {
			n = some(1, n)
		}
	}
	return n
}

// words are tokens of all sorts.
func words() []string {
	return []string{"course", "credits", "all", "some", "of", "(", ")", ";", "1", "-2", "1:A", "1:B", `"x"`, "need", "1:"}
}

// TestReadNeedShort: P9.3 for all texts of up to four tokens, and of up to six parts that can follow each other.
func TestReadNeedShort(t *testing.T) {
	if n := readFrom(t, "", words(), 4); n[api.OK] == 0 || n[api.ErrMany] == 0 {
		t.Errorf("of the short texts there are, by their errors, %v", n)
	}
	parts := []string{"course 1 of", "2 credits 1 of 1:A", "1:B", "all(", "1 some(", ")", ";"}
	if n := readFrom(t, "", parts, 6); n[api.OK] < 30 || n[api.ErrMany] < 30 || n[api.ErrNeed] == 0 || n[api.ErrOrder] == 0 {
		t.Errorf("of the texts of parts there are, by their errors, %v", n)
	}
}

// readFrom reads s, and all texts that have up to more of the parts behind it, and returns how many of them have which error.
func readFrom(t *testing.T, s string, parts []string, more int) map[api.Errno]int {
	found := map[api.Errno]int{compareNeed(t, s): 1}
	if more > 0 {
		for _, part := range parts {
			for err, n := range readFrom(t, s+part+" ", parts, more-1) {
				found[err] += n
			}
		}
	}
	return found
}

// TestReadNeedNear: P9.3 for all texts that come from one by a token that is left out, doubled, put in, or in place of another one.
func TestReadNeedNear(t *testing.T) {
	for _, n := range rightNeeds() {
		tokens, _ := modelTokens(modelNeed(n))
		if len(tokens) > 60 {
			continue
		}
		for i := range len(tokens) + 1 {
			for _, word := range words() {
				compareNeed(t, strings.Join(slices.Insert(slices.Clone(tokens), i, word), " "))
				if i < len(tokens) {
					compareNeed(t, strings.Join(slices.Replace(slices.Clone(tokens), i, i+1, word), " "))
				}
			}
			for j := i; j <= min(i+4, len(tokens)); j++ {
				compareNeed(t, strings.Join(slices.Delete(slices.Clone(tokens), i, j), " "))
				compareNeed(t, strings.Join(slices.Insert(slices.Clone(tokens), i, tokens[i:j]...), " "))
			}
			compareNeed(t, strings.Join(tokens[:i], " "))
			compareNeed(t, strings.Join(tokens[i:], " "))
		}
	}
}

// TestReadNeedBytes: P9.3 for all texts that come from one by a byte that is changed, left out, or put in.
func TestReadNeedBytes(t *testing.T) {
	for _, s := range []string{"all (course -5 of 1:A1 8:B; 1 some (20 credits 100 of 1:A))", "1 some(1 credits 0 of 1:A;all(course 10 of\n2:B))"} {
		compareNeed(t, s)
		for i := range len(s) + 1 {
			for b := range 256 {
				compareNeed(t, s[:i]+string([]byte{byte(b)})+s[i:])
				if i < len(s) {
					compareNeed(t, s[:i]+string([]byte{byte(b)})+s[i+1:])
				}
			}
			compareNeed(t, s[:i])
			compareNeed(t, s[i:])
			compareNeed(t, s[:i]+s[min(i+1, len(s)):])
		}
	}
}

// TestReadNeedRandom: P9.3 for random tokens that often belong together.
func TestReadNeedRandom(t *testing.T) {
	r := rand.New(rand.NewSource(3))
	parts := []string{"course 50 of 1:A", "1:B", "12 credits 0 of 1:A", "all(", "1 some(", "2 some (", "course 0 of 1:A)", ");", ")", ";", " 2:C", "course", "7", "all"}
	for range 60000 {
		s := ""
		for range r.Intn(12) {
			s += parts[r.Intn(len(parts))] + " \n"[:r.Intn(3)]
		}
		compareNeed(t, s)
	}
}
