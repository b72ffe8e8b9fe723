package text_test

import (
	"slices"
	"strings"
	"testing"

	"quadrivium/api"
	"quadrivium/text"
)

// TestRead: P9.4: the lines of programmes, as Write writes them, and as people may write them.
func TestRead(t *testing.T) {
	for _, p := range rightProgrammes() {
		readAll(t, modelProgramme(p), p)
	}
	readAll(t, "programme 1 7 version 1 from 0\"Music\"total 60 own 30 age 6 need course 50 of 1:A", api.Programme{School: 1, Id: 7, Version: 1, Name: "Music", Need: one(50, "1:A"), Total: 60, Own: 30, Age: 6})
	readAll(t, "\nprogramme\n1\n7\nversion 1 from\n0 \"Music\"\n\ntotal 60 own 30\nage 6 exclude 1:A 1:B exclude\n1:A 1:C\nneed all(\ncourse 50 of 1:A;\ncourse 50 of 1:B)", api.Programme{School: 1, Id: 7, Version: 1, Name: "Music", Need: every(one(50, "1:A"), one(50, "1:B")), Total: 60, Own: 30, Age: 6, Exclude: [][2]api.Course{[2]api.Course(set("1:A 1:B")), [2]api.Course(set("1:A 1:C"))}})
}

// TestReadCut: P9.4: lines that are cut short at any byte, or at any token, are none.
func TestReadCut(t *testing.T) {
	for _, p := range []api.Programme{arts(), excluding(), changed(func(p *api.Programme) { p.Need = one(10, "1:A 2:B") })} {
		s := modelProgramme(p)
		for i := range len(s) + 1 {
			compareAll(t, s[:i])
			compareAll(t, s[i:])
			if strings.HasSuffix(s, ")\n") && i < len(s)-1 {
				refuseAll(t, s[:i], api.ErrForm)
			}
		}
	}
	// What is cut behind a course of a Set can be a text; what is cut within it has the form of one.
	at := strings.Index(artsText, "all (")
	readAll(t, artsText[:at]+"course 50 of 1:A1 1:B", changed(func(p *api.Programme) { p.Need = one(50, "1:A1 1:B") }))
	readAll(t, artsText[:at]+"course 50 of 1:A", changed(func(p *api.Programme) { p.Need = one(50, "1:A") }))
	refuseAll(t, artsText[:at]+"course 50 of 1:", api.ErrArg)
	refuseAll(t, artsText[:at]+"course 50 of 1", api.ErrForm)
	refuseAll(t, artsText[:at]+"course 50 of", api.ErrMany)
	refuseAll(t, artsText[:at]+"course 50 o", api.ErrForm)
}

// TestReadLines: P9.4: lines that are missing, that stand twice, or in another order. Only the pairs may be any number, in any order.
func TestReadLines(t *testing.T) {
	lines := strings.SplitAfter(strings.TrimSuffix(artsText, "\n"), "\n")
	isPair := func(i int) bool { return i == 2 || i == 3 }
	for i, line := range lines {
		for j := range len(lines) + 1 {
			s := strings.Join(slices.Insert(slices.Clone(lines), j, line+"\n"), "")
			want := api.ErrForm
			if isPair(i) && j >= 2 && j <= 4 {
				want = api.ErrTwice
			}
			refuseAll(t, s, want)
			compareAll(t, s)
			if j < len(lines) && i < j && !(isPair(i) && isPair(j)) {
				l := slices.Clone(lines)
				l[i], l[j] = l[j]+"\n", l[i]+"\n"
				refuseAll(t, strings.Join(l, ""), api.ErrForm)
			}
		}
		s := strings.Join(slices.Delete(slices.Clone(lines), i, i+1), "")
		if !isPair(i) {
			refuseAll(t, s, api.ErrForm)
		}
		compareAll(t, s)
	}
	readAll(t, lines[0]+lines[1]+lines[3]+lines[2]+lines[4], excluding("2:B2 2:D", "1:A1 3:C"))
	readAll(t, lines[0]+lines[1]+lines[3]+lines[4], excluding("2:B2 2:D"))
	readAll(t, lines[0]+lines[1]+lines[4], excluding())
	refuseAll(t, artsText+artsText, api.ErrForm)
	refuseAll(t, artsText+lines[2], api.ErrForm)
	refuseAll(t, strings.Join(lines, "\n;"), api.ErrForm)
}

// TestReadForm: P9.4: tokens that are not those of the lines.
func TestReadForm(t *testing.T) {
	for _, s := range []string{"", " ", "\n\n", strings.Repeat(" ", 4096), "programme", "need course 50 of 1:A", "course 50 of 1:A", "1", `""`, ";", "(" + artsText + ")", artsText + ";", artsText + "1:D", artsText + "x", artsText + "need", artsText + ")"} {
		refuseAll(t, s, api.ErrForm)
		compareAll(t, s)
	}
	tokens, _ := modelTokens(artsText)
	for i := range len(tokens) + 1 {
		for _, word := range append(words(), "programme", "version", "from", "total", "own", "age", "exclude", `""`, "Programme") {
			compareAll(t, strings.Join(slices.Insert(slices.Clone(tokens), i, word), " "))
			if i < len(tokens) {
				compareAll(t, strings.Join(slices.Replace(slices.Clone(tokens), i, i+1, word), " "))
			}
		}
		for j := i; j <= min(i+6, len(tokens)); j++ {
			compareAll(t, strings.Join(slices.Delete(slices.Clone(tokens), i, j), " "))
			compareAll(t, strings.Join(slices.Insert(slices.Clone(tokens), i, tokens[i:j]...), " "))
		}
	}
	for i := range len(tokens) - 1 {
		l := slices.Clone(tokens)
		l[i], l[i+1] = l[i+1], l[i]
		compareAll(t, strings.Join(l, " "))
	}
	// Each word is written in one way.
	for _, word := range []string{"programme", "version", "from", "total", "own", "age", "exclude", "need", "all", "course", "of", "some", "credits"} {
		for _, other := range []string{strings.ToUpper(word), word[1:], word[:len(word)-1], word + "s", `"` + word + `"`, "1", ";"} {
			s := strings.Replace(artsText, word, other, 1)
			refuseAll(t, s, api.ErrForm)
		}
	}
}

// TestReadBytes: P9.4 for all lines that come from arts by a byte that is changed, left out, or put in.
func TestReadBytes(t *testing.T) {
	for i := range len(artsText) {
		for b := range 256 {
			c := string([]byte{byte(b)})
			compareAll(t, artsText[:i]+c+artsText[i:])
			compareAll(t, artsText[:i]+c+artsText[i+1:])
		}
		compareAll(t, artsText[:i]+artsText[i+1:])
	}
}

// TestReadSaid: P9.4: lines whose form is right, for each error of what they say.
func TestReadSaid(t *testing.T) {
	head := func(numbers, name, more string) string {
		return "programme " + numbers + ` "` + name + "\"\n" + more
	}
	const right, rest, leaf = "3 41 version 2 from 500", "total 60 own 30 age 6\n", "need course 50 of 1:A\n"
	for want, texts := range map[api.Errno][]string{
		api.ErrArg: {
			head("0 41 version 2 from 500", "N", rest+leaf), head("9 41 version 2 from 500", "N", rest+leaf), head("-1 0 version 0 from -1", "", rest+leaf), head(right, "", rest+leaf), head(right, strings.Repeat("n", 41), rest+leaf), head(right, "", rest+"need all ()\n"), head(right, "N", rest+"need course 50 of 1:a\n"),
			head(right, "N", rest+"exclude 1:a 1:B\n"+leaf), head(right, "N", rest+"exclude 1:A 1:\n"+leaf), head(right, "N", rest+"exclude 0:A 1:B\n"+leaf), head(right, "N", rest+"exclude 1:A 9:B\n"+leaf), head(right, "N", rest+"exclude 1:A 1:B\nexclude 1:B 1:a\n"+leaf),
		},
		api.ErrRange: {
			head("3 0 version 2 from 500", "N", rest+leaf), head("3 1000000 version 2 from 500", "N", rest+leaf), head("3 -41 version 2 from 500", "N", rest+leaf), head("3 41 version 0 from 500", "N", rest+leaf), head("3 41 version 21 from 500", "N", rest+leaf), head("3 41 version 2 from -1", "N", rest+leaf), head("3 41 version 2 from 100001", "N", rest+leaf), head("3 41 version 2 from 999999999", "", rest+leaf),
			head(right, "N", "total -1 own 30 age 6\n"+leaf), head(right, "N", "total 601 own 30 age 6\n"+leaf), head(right, "N", "total 60 own -1 age 6\n"+leaf), head(right, "N", "total 60 own 601 age 6\n"+leaf), head(right, "N", "total 60 own 30 age -1\n"+leaf), head(right, "", "total 60 own 30 age 101\n"+leaf), head(right, "N", rest+"need 0 credits 0 of 1:A\n"), head(right, "N", rest+"need 2 some (course 0 of 1:A)\n"), head(right, "N", rest+"exclude 1:a 1:B\nneed course 1001 of 1:A\n"),
		},
		api.ErrMany: {
			head(right, "N", rest+"need all ()\n"), head(right, "N", rest+"need course 50 of\n"), head(right, "N", rest+strings.Repeat("exclude 0:A 1:B\n", 9)+leaf), head(right, "N", rest+strings.Repeat("exclude 1:A 1:B\n", 200)+leaf), head(right, "N", rest+"need "+strings.Repeat("all(", 700)+"course 0 of 1:A"+strings.Repeat(")", 700)), head(right, "N", rest+"exclude 1:B 1:A\nneed all()\n"),
		},
		api.ErrNeed: {
			head(right, "N", rest+"need all (all (); course 50 of 1:A)\n"), head(right, "N", rest+"need 1 some (course 50 of 1:A; 0 some ())\n"), head(right, "N", rest+"exclude 1:B 1:A\nneed all (all (); course 50 of 1:A)\n"),
		},
		api.ErrOrder: {
			head(right, "N", rest+"need course 50 of 1:B 1:A\n"), head(right, "N", rest+"exclude 1:B 1:A\n"+leaf), head(right, "N", rest+"exclude 1:A 1:A\n"+leaf), head(right, "N", rest+"exclude 1:A 1:B\nexclude 2:A 1:B\n"+leaf), head(right, "N", rest+"exclude 1:B 1:A\nexclude 1:B 1:A\n"+leaf),
		},
		api.ErrTwice: {
			head(right, "N", rest+"exclude 1:A 1:B\nexclude 1:A 1:B\n"+leaf), head(right, "N", rest+"exclude 1:A 1:B\nexclude 1:A 1:C\nexclude 1:A 1:B\nexclude 1:a 1:b\n"+leaf), head(right, "N", rest+strings.Repeat("exclude 1:A 1:B\n", 8)+leaf),
		},
	} {
		for _, s := range texts {
			refuseAll(t, s, want)
			compareAll(t, s)
		}
	}
}

// TestReadOrder: P9.4: the length counts before the form, and the form before what is said.
func TestReadOrder(t *testing.T) {
	wrong := strings.ReplaceAll(artsText, "programme 3 41", "programme 9 0")
	for s, want := range map[string]api.Errno{
		wrong: api.ErrArg, wrong + ";": api.ErrForm, wrong + ",": api.ErrForm, "\t" + wrong: api.ErrForm, wrong + strings.Repeat(" ", 4096): api.ErrMany, wrong + strings.Repeat(";", 4096): api.ErrMany, strings.Repeat(" ", 4096) + wrong + ",": api.ErrMany, strings.Repeat("\xff", 4097): api.ErrMany, strings.Repeat("\xff", 4096): api.ErrForm, strings.Repeat(artsText, 100): api.ErrMany,
	} {
		refuseAll(t, s, want)
	}
}

// TestOther: P9.3 and P9.4: neither reads what the other one does.
func TestOther(t *testing.T) {
	for _, p := range rightProgrammes() {
		refuseNeed(t, modelProgramme(p), api.ErrForm)
		s, _ := text.Write(p)
		refuseNeed(t, s, api.ErrForm)
	}
	for _, n := range rightNeeds() {
		refuseAll(t, modelNeed(n), api.ErrForm)
		s, _ := text.WriteNeed(n)
		refuseAll(t, s, api.ErrForm)
		refuseAll(t, "need "+s, api.ErrForm)
		refuseNeed(t, "need "+s, api.ErrForm)
	}
}
