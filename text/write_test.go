package text_test

import (
	"math/rand"
	"strings"
	"testing"

	"quadrivium/api"
	"quadrivium/need"
	"quadrivium/text"
)

// TestWriteNeed: P9.1: the text of each Kind, with the examples of the chapter.
func TestWriteNeed(t *testing.T) {
	a, b := one(50, "1:A1 1:B1"), credits(12, 0, "2:B2")
	for _, x := range []struct {
		n    api.Need
		want string
	}{
		{a, "course 50 of 1:A1 1:B1"}, {b, "12 credits 0 of 2:B2"}, {some(1, a, b), "1 some (course 50 of 1:A1 1:B1; 12 credits 0 of 2:B2)"}, {every(one(-3, "1:A1")), "all (course -3 of 1:A1)"},
		{one(-1000, "8:ABCDEFGH"), "course -1000 of 8:ABCDEFGH"}, {one(1000, "1:0 2:0 3:00"), "course 1000 of 1:0 2:0 3:00"}, {credits(600, -1, "1:A 1:B 2:A"), "600 credits -1 of 1:A 1:B 2:A"}, {credits(1, 1000, "1:9"), "1 credits 1000 of 1:9"},
		{every(b, a), "all (12 credits 0 of 2:B2; course 50 of 1:A1 1:B1)"}, {some(3, b, a, b), "3 some (12 credits 0 of 2:B2; course 50 of 1:A1 1:B1; 12 credits 0 of 2:B2)"}, {some(1, b), "1 some (12 credits 0 of 2:B2)"},
		{every(some(1, b, every(b)), b), "all (1 some (12 credits 0 of 2:B2; all (12 credits 0 of 2:B2)); 12 credits 0 of 2:B2)"}, {every(every(every(every(one(0, "1:A"))))), "all (all (all (all (course 0 of 1:A))))"},
	} {
		writeNeed(t, x.n, x.want)
		readNeed(t, x.want, x.n)
	}
}

// TestWriteNeedRight: P9.1 for right requirements, and random ones, compared with the model.
func TestWriteNeedRight(t *testing.T) {
	for _, n := range rightNeeds() {
		writeNeed(t, n, modelNeed(n))
	}
	r := rand.New(rand.NewSource(9))
	written := 0
	for range 20000 {
		n := randomNeed(r, 1+r.Intn(5))
		if need.Check(n) == api.OK {
			writeNeed(t, n, modelNeed(n))
			written++
		}
	}
	if written < 10000 {
		t.Errorf("only %d of them are right", written)
	}
}

// TestWriteNeedWrong: P9.1: what is not right has no text, but the error of need.Check.
func TestWriteNeedWrong(t *testing.T) {
	for i, n := range wrongNeeds() {
		want := need.Check(n)
		if got, err := text.WriteNeed(n); got != "" || err != want || err == api.OK {
			t.Errorf("%d: WriteNeed = %q, %d, want the error %d", i, got, err, want)
		}
	}
	for want, n := range map[api.Errno]api.Need{api.ErrNeed: {}, api.ErrMany: endless()[0], api.ErrRange: some(0, one(0, "1:A")), api.ErrArg: one(0, "1:a"), api.ErrOrder: one(0, "1:B 1:A")} {
		if got, err := text.WriteNeed(n); got != "" || err != want {
			t.Errorf("WriteNeed = %q, %d, want the error %d", got, err, want)
		}
	}
}

// TestWrite: P9.2: the lines of programmes with no pair, one and several.
func TestWrite(t *testing.T) {
	for _, x := range []struct {
		p    api.Programme
		want string
	}{
		{arts(), artsText},
		{api.Programme{School: 1, Id: 7, Version: 1, Name: "Music", Need: one(50, "1:A")}, "programme 1 7 version 1 from 0 \"Music\"\ntotal 0 own 0 age 0\nneed course 50 of 1:A\n"},
		{api.Programme{School: 8, Id: 999999, Version: 20, From: 100000, Name: " ", Need: credits(1, 0, "1:A"), Total: 600, Own: 599, Age: 100, Exclude: [][2]api.Course{[2]api.Course(set("8:A 8:B"))}}, "programme 8 999999 version 20 from 100000 \" \"\ntotal 600 own 599 age 100\nexclude 8:A 8:B\nneed 1 credits 0 of 1:A\n"},
		{excluding("2:B 8:A", "1:A 1:B", "1:A 1:C"), strings.ReplaceAll(artsText, "exclude 1:A1 3:C\nexclude 2:B2 2:D\n", "exclude 2:B 8:A\nexclude 1:A 1:B\nexclude 1:A 1:C\n")},
	} {
		writeAll(t, x.p, x.want)
		readAll(t, x.want, x.p)
	}
}

// TestWriteRight: P9.2 for right programmes, compared with the model line by line.
func TestWriteRight(t *testing.T) {
	for _, p := range rightProgrammes() {
		got, err := text.Write(p)
		want := modelLines(p)
		lines := strings.SplitAfter(got, "\n")
		if err != api.OK || len(lines) != len(want)+1 || lines[len(want)] != "" {
			t.Errorf("Write(%v) = %q, %d", p, got, err)
			continue
		}
		for i, line := range want {
			if lines[i] != line+"\n" {
				t.Errorf("the line %d of %v is %q, want %q", i, p, lines[i], line)
			}
		}
	}
}

// TestWriteWrong: P9.2: what is not right has no text, but the error of need.CheckAll.
func TestWriteWrong(t *testing.T) {
	for i, p := range wrongProgrammes() {
		want := need.CheckAll(p)
		if got, err := text.Write(p); got != "" || err != want || err == api.OK {
			t.Errorf("%d: Write = %q, %d, want the error %d", i, got, err, want)
		}
	}
	for want, p := range map[api.Errno]api.Programme{api.ErrArg: {}, api.ErrRange: changed(func(p *api.Programme) { p.Age = 101 }), api.ErrOrder: excluding("1:B 1:A"), api.ErrTwice: excluding("1:A 1:B", "1:A 1:B"), api.ErrNeed: changed(func(p *api.Programme) { p.Need = api.Need{} }), api.ErrMany: changed(func(p *api.Programme) { p.Need = endless()[1] })} {
		if got, err := text.Write(p); got != "" || err != want {
			t.Errorf("Write = %q, %d, want the error %d", got, err, want)
		}
	}
}
