package text_test

import (
	"fmt"
	"regexp"
	"strconv"
	"strings"
	"testing"

	"quadrivium/api"
	"quadrivium/need"
	"quadrivium/text"
)

// The model writes with fmt, and reads by rewriting: it puts a mark in the place of each requirement that it finds, the inner ones first, until one mark is left. The tests compare the program with it.

// modelNeed is the text of n by the section 'Words'.
func modelNeed(n api.Need) string {
	var courses string
	for _, c := range n.Set {
		courses += fmt.Sprintf(" %d:%s", c.School, c.Code)
	}
	var below []string
	for _, x := range n.L {
		below = append(below, modelNeed(x))
	}
	list := strings.Join(below, "; ")
	return map[int]string{
		1: fmt.Sprintf("course %d of%s", n.Min, courses),
		2: fmt.Sprintf("%d credits %d of%s", n.N, n.Min, courses),
		3: fmt.Sprintf("all (%s)", list),
		4: fmt.Sprintf("%d some (%s)", n.N, list),
	}[n.Kind]
}

// modelLines are the lines of p by P9.2, without their ends.
func modelLines(p api.Programme) []string {
	l := []string{fmt.Sprintf(`programme %d %d version %d from %d "%s"`, p.School, p.Id, p.Version, p.From, p.Name), fmt.Sprintf("total %d own %d age %d", p.Total, p.Own, p.Age)}
	for _, x := range p.Exclude {
		l = append(l, fmt.Sprintf("exclude %d:%s %d:%s", x[0].School, x[0].Code, x[1].School, x[1].Code))
	}
	return append(l, "need "+modelNeed(p.Need))
}

func modelProgramme(p api.Programme) string {
	return strings.Join(modelLines(p), "\n") + "\n"
}

// Patterns of tokens, each with a blank on both sides, so that no two of them share one.
const (
	numbered = ` (-?[1-9][0-9]{0,8}|0) `
	named    = ` (-?[1-9][0-9]{0,8}|0):([-:a-zA-Z0-9]*) `
	pair     = ` exclude ` + named + named
	marks    = ` \( ((?: #[0-9]+ (?: ;  #[0-9]+ )*)?) \) `
)

var (
	aToken   = regexp.MustCompile(`^(?:[();]|"[ !#-~]*"|[-:a-zA-Z0-9]+)`)
	aMark    = regexp.MustCompile(`#[0-9]+`)
	aCourse  = regexp.MustCompile(named)
	aPair    = regexp.MustCompile(pair)
	aLeaf    = regexp.MustCompile(`(?: course |` + numbered + ` credits )` + numbered + ` of ((?:` + named + `)*)`)
	aList    = regexp.MustCompile(`(?: all |` + numbered + ` some )` + marks)
	theLines = regexp.MustCompile(`^ programme ` + numbered + numbered + ` version ` + numbered + ` from ` + numbered + ` "([^"]*)"  total ` + numbered + ` own ` + numbered + ` age ` + numbered + `((?:` + pair + `)*) need ([^"]*)$`)
)

// modelTokens are the tokens of s.
func modelTokens(s string) ([]string, bool) {
	var l []string
	for s = strings.TrimLeft(s, " \n"); s != ""; s = strings.TrimLeft(s, " \n") {
		token := aToken.FindString(s)
		if token == "" {
			return nil, false
		}
		l, s = append(l, token), s[len(token):]
	}
	return l, true
}

// spread are the tokens of s with a blank on both sides of each.
func spread(s string) (string, bool) {
	l, ok := modelTokens(s)
	return " " + strings.Join(l, "  ") + " ", ok
}

// of is the number that a word is, and 0 for the empty one.
func of(word string) int {
	n, _ := strconv.Atoi(word)
	return n
}

func coursesOf(s string) []api.Course {
	var l []api.Course
	for _, x := range aCourse.FindAllStringSubmatch(s, -1) {
		l = append(l, api.Course{School: of(x[1]), Code: x[2]})
	}
	return l
}

// reduce is the requirement whose tokens s has, spread.
func reduce(s string) (api.Need, bool) {
	var found []api.Need
	mark := func(n api.Need) string {
		found = append(found, n)
		return fmt.Sprintf(" #%d ", len(found)-1)
	}
	s = aLeaf.ReplaceAllStringFunc(s, func(part string) string {
		x := aLeaf.FindStringSubmatch(part)
		n := api.Need{Kind: 1, N: of(x[1]), Min: of(x[2]), Set: coursesOf(x[3])}
		if x[1] != "" {
			n.Kind = 2
		}
		return mark(n)
	})
	for before := ""; before != s; {
		before = s
		s = aList.ReplaceAllStringFunc(s, func(part string) string {
			x := aList.FindStringSubmatch(part)
			n := api.Need{Kind: 3, N: of(x[1])}
			if x[1] != "" {
				n.Kind = 4
			}
			for _, m := range aMark.FindAllString(x[2], -1) {
				n.L = append(n.L, found[of(m[1:])])
			}
			return mark(n)
		})
	}
	if m := strings.TrimSpace(s); aMark.FindString(m) == m && m != "" {
		return found[of(m[1:])], true
	}
	return api.Need{}, false
}

func modelReadNeed(s string) (api.Need, api.Errno) {
	if len(s) >= 4097 {
		return api.Need{}, api.ErrMany
	}
	tokens, ok := spread(s)
	// A string could have a mark, or a requirement, within itself.
	if !ok || strings.Contains(tokens, `"`) {
		return api.Need{}, api.ErrForm
	}
	n, ok := reduce(tokens)
	if !ok {
		return api.Need{}, api.ErrForm
	}
	if err := need.Check(n); err != api.OK {
		return api.Need{}, err
	}
	return n, api.OK
}

func modelRead(s string) (api.Programme, api.Errno) {
	if len(s) >= 4097 {
		return api.Programme{}, api.ErrMany
	}
	tokens, ok := spread(s)
	x := theLines.FindStringSubmatch(tokens)
	if !ok || x == nil {
		return api.Programme{}, api.ErrForm
	}
	p := api.Programme{School: of(x[1]), Id: of(x[2]), Version: of(x[3]), From: of(x[4]), Name: x[5], Total: of(x[6]), Own: of(x[7]), Age: of(x[8])}
	for _, y := range aPair.FindAllString(x[9], -1) {
		p.Exclude = append(p.Exclude, [2]api.Course(coursesOf(y)))
	}
	p.Need, ok = reduce(x[len(x)-1])
	if !ok {
		return api.Programme{}, api.ErrForm
	}
	if err := need.CheckAll(p); err != api.OK {
		return api.Programme{}, err
	}
	return p, api.OK
}

// compareNeed compares ReadNeed with the model, and returns the error of both.
func compareNeed(t *testing.T, s string) api.Errno {
	t.Helper()
	got, err := text.ReadNeed(s)
	want, wantErr := modelReadNeed(s)
	if err != wantErr || !need.Same(got, want) {
		t.Errorf("ReadNeed(%.200q) = %v, %d, want %v, %d", s, got, err, want, wantErr)
	}
	return wantErr
}

// compareAll compares Read with the model, and returns the error of both.
func compareAll(t *testing.T, s string) api.Errno {
	t.Helper()
	got, err := text.Read(s)
	want, wantErr := modelRead(s)
	if err != wantErr || !need.SameAll(got, want) {
		t.Errorf("Read(%.300q) = %v, %d, want %v, %d", s, got, err, want, wantErr)
	}
	return wantErr
}

// readNeed is a call of ReadNeed that must return want.
func readNeed(t *testing.T, s string, want api.Need) {
	t.Helper()
	if got, err := text.ReadNeed(s); err != api.OK || !need.Same(got, want) {
		t.Errorf("ReadNeed(%.200q) = %v, %d, want %v", s, got, err, want)
	}
}

// refuseNeed is a call of ReadNeed that must return this error alone.
func refuseNeed(t *testing.T, s string, want api.Errno) {
	t.Helper()
	if got, err := text.ReadNeed(s); err != want || !need.Same(got, api.Need{}) {
		t.Errorf("ReadNeed(%.200q) = %v, %d, want the error %d", s, got, err, want)
	}
}

// readAll is a call of Read that must return want.
func readAll(t *testing.T, s string, want api.Programme) {
	t.Helper()
	if got, err := text.Read(s); err != api.OK || !need.SameAll(got, want) {
		t.Errorf("Read(%.300q) = %v, %d, want %v", s, got, err, want)
	}
}

// refuseAll is a call of Read that must return this error alone.
func refuseAll(t *testing.T, s string, want api.Errno) {
	t.Helper()
	if got, err := text.Read(s); err != want || !need.SameAll(got, api.Programme{}) {
		t.Errorf("Read(%.300q) = %v, %d, want the error %d", s, got, err, want)
	}
}

// writeNeed is a call of WriteNeed that must return want.
func writeNeed(t *testing.T, n api.Need, want string) {
	t.Helper()
	if got, err := text.WriteNeed(n); got != want || err != api.OK {
		t.Errorf("WriteNeed(%v) = %q, %d, want %q", n, got, err, want)
	}
}

// writeAll is a call of Write that must return want.
func writeAll(t *testing.T, p api.Programme, want string) {
	t.Helper()
	if got, err := text.Write(p); got != want || err != api.OK {
		t.Errorf("Write(%v) = %q, %d, want %q", p, got, err, want)
	}
}
