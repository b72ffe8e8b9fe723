package course_test

import (
	"fmt"
	"math"
	"slices"
	"strconv"
	"strings"
	"testing"

	"quadrivium/api"
	"quadrivium/course"
)

// The model follows the words and the promises to the letter; the tests compare the program with it.

func of(code string, credits, places int, slots []int, needs ...string) api.Offer {
	return api.Offer{Code: code, Credits: credits, Places: places, Slots: slots, Needs: needs}
}

// plain returns an offer of which Code and Needs alone matter.
func plain(code string, needs ...string) api.Offer {
	return of(code, 5, 30, []int{1}, needs...)
}

// example is the catalog of the chapter.
func example() []api.Offer {
	return []api.Offer{of("A1", 5, 30, []int{1, 2}), of("B1", 6, 10, []int{2}, "A1"), of("B2", 3, 0, nil), of("C1", 10, 200, []int{40}, "B1", "B2")}
}

// edges are numbers next to all the bounds of the chapter, and at the ends of some widths.
func edges() []int {
	return []int{math.MinInt, math.MinInt + 1, -1 << 32, -200, -60, -40, -1, 0, 1, 2, 39, 40, 41, 59, 60, 61, 199, 200, 201, 256, 257, 1 << 32, 1<<32 + 1, math.MaxInt - 1, math.MaxInt}
}

// coded returns n codes, increasing.
func coded(n int) []string {
	var l []string
	for i := range n {
		l = append(l, fmt.Sprintf("C%03d", i))
	}
	return l
}

// loose are n offers that require nothing.
func loose(n int) []api.Offer {
	var l []api.Offer
	for _, s := range coded(n) {
		l = append(l, plain(s))
	}
	return l
}

// rising is a chain of n offers, each of which requires the one before it.
func rising(n int) []api.Offer {
	l := loose(n)
	for i := 1; i < n; i++ {
		l[i].Needs = []string{l[i-1].Code}
	}
	return l
}

// falling is a chain of n offers, each of which requires the one after it, so that the least code comes last.
func falling(n int) []api.Offer {
	l := loose(n)
	for i := 1; i < n; i++ {
		l[i-1].Needs = []string{l[i].Code}
	}
	return l
}

// dense are n offers, each of which requires the five before it.
func dense(n int) []api.Offer {
	l := loose(n)
	for i := range l {
		for _, o := range l[max(0, i-5):i] {
			l[i].Needs = append(l[i].Needs, o.Code)
		}
	}
	return l
}

// rightCatalogs are right, each in a way of its own.
func rightCatalogs() [][]api.Offer {
	all := make([]int, 40)
	for i := range all {
		all[i] = i + 1
	}
	return [][]api.Offer{
		nil, {}, {plain("A")}, example(), {of("0", 1, 0, nil)}, {of("ZZZZZZZZ", 60, 200, all)}, {of("A", 60, 200, []int{1}), of("A0", 1, 0, []int{40}), of("AA", 59, 199, []int{1, 40}), of("B", 2, 1, []int{}, []string{}...)},
		loose(59), loose(60), rising(2), rising(60), falling(2), falling(59), falling(60), dense(60),
		{plain("A", "C"), plain("B", "C"), plain("C")}, {plain("A", "B", "C"), plain("B", "D"), plain("C", "D"), plain("D")}, {plain("A", "B", "C", "D", "E", "F"), plain("B"), plain("C"), plain("D"), plain("E"), plain("F")}, {plain("A"), plain("B", "A", "C"), plain("C", "A"), plain("D", "A", "B", "C")},
		{plain("A", "B"), plain("B"), plain("C", "D"), plain("D", "E"), plain("E", "A")}, {plain("1"), plain("9", "A"), plain("A", "1"), plain("Z", "9")},
	}
}

// wrongLists are not right, each for a fault of its own, or for several.
func wrongLists() [][]api.Offer {
	return [][]api.Offer{
		loose(61), rising(61), falling(100), dense(61), make([]api.Offer, 61), make([]api.Offer, 1), {plain("a")}, {plain("")}, {plain("ABCDEFGHI")}, {plain("B"), plain("A")},
		{plain("A", "A")}, {plain("A", "B"), plain("B", "A")}, {plain("A", "B"), plain("B", "C"), plain("C", "A")}, {plain("A", "C"), plain("B"), plain("C", "A", "B")}, {plain("A"), plain("B", "A", "C"), plain("C", "B"), plain("D", "C")}, append(rising(58), plain("X", "Y"), plain("Y", "X")),
		{plain("A", "X")}, {plain("A", "X"), plain("B", "B")}, {plain("A", "A"), plain("B", "X")}, {plain("A", "B"), plain("B", "A", "X")}, {plain("A", "a")}, {plain("A", "")}, {plain("B", "A")},
		{plain("A", "B"), plain("A", "C"), plain("B"), plain("C", "X")}, {plain("A", "B"), plain("B", "A"), plain("B", "C"), plain("C")}, {plain("B", "X"), plain("A", "B"), plain("A"), plain("X", "Y"), plain("B", "Z")}, {plain("A"), plain("A", "B"), plain("B", "A")}, {plain("A", "A"), plain("A")}, {plain("", "A"), plain("A", "")},
		{plain("A", "B", "B"), plain("B")}, {plain("A", "C", "B"), plain("B", "X", "A"), plain("C")}, {plain("A", "B", "C", "D", "E", "F", "G"), plain("B"), plain("C"), plain("D"), plain("E"), plain("F"), plain("G")}, {plain("é", "\xff", "é"), plain("\xff", "\x00")},
		{of("A", math.MinInt, math.MaxInt, []int{math.MaxInt, math.MinInt, 0})}, {of("A", 0, 0, nil)}, {of("A", 1, -1, nil)}, {of("A", 1, 0, []int{0})}, {of("A", 1, 0, []int{41})}, {of("A", 1, 0, []int{2, 2})}, {of("A", 1, 0, []int{3, 2})},
	}
}

// smallLists are all lists of up to three offers with few codes, of which one is none, and with few Needs, of which one has no offer.
func smallLists() [][]api.Offer {
	var offers []api.Offer
	for _, code := range []string{"A", "B", "C", "a"} {
		for _, needs := range [][]string{nil, {"A"}, {"B"}, {"C"}, {"A", "B"}, {"A", "C"}, {"B", "C"}, {"C", "B"}, {"X"}} {
			offers = append(offers, plain(code, needs...))
		}
	}
	lists := [][]api.Offer{nil}
	for at := 0; at < len(lists); at++ {
		for _, o := range offers {
			if len(lists[at]) < 3 {
				lists = append(lists, append(slices.Clone(lists[at]), o))
			}
		}
	}
	return lists
}

type fault struct {
	is  bool
	err api.Errno
}

func first(faults []fault) api.Errno {
	for _, f := range faults {
		if f.is {
			return f.err
		}
	}
	return api.OK
}

func modelCode(s string) bool {
	n := 0
	for _, c := range []byte(s) {
		if strings.IndexByte("ABCDEFGHIJKLMNOPQRSTUVWXYZ0123456789", c) >= 0 {
			n++
		}
	}
	return n == len(s) && n > 0 && n < 9
}

// modelIncrease compares each element with all those after it.
func modelIncrease[T int | string](l []T) bool {
	for i := range l {
		for k := range l[:i] {
			if l[k] >= l[i] {
				return false
			}
		}
	}
	return true
}

// faultsOfLast are the faults of the last one of l, in the order of P7.2, 2.
func faultsOfLast(l []api.Offer) []fault {
	o := l[len(l)-1]
	found := []fault{{!modelCode(o.Code), api.ErrCourse}}
	if len(l) > 1 {
		before := l[len(l)-2].Code
		found = append(found, fault{o.Code == before, api.ErrTwice}, fault{o.Code < before, api.ErrOrder})
	}
	found = append(found, fault{o.Credits <= 0, api.ErrRange}, fault{o.Credits >= 61, api.ErrRange}, fault{o.Places <= -1, api.ErrRange}, fault{o.Places >= 201, api.ErrRange})
	for _, n := range o.Slots {
		found = append(found, fault{n <= 0, api.ErrRange}, fault{n >= 41, api.ErrRange})
	}
	return append(found, fault{!modelIncrease(o.Slots), api.ErrOrder}, fault{len(o.Needs) >= 6, api.ErrMany}, fault{!modelIncrease(o.Needs), api.ErrOrder})
}

func modelCheck(l []api.Offer) api.Errno {
	if len(l) >= 61 {
		return api.ErrMany
	}
	var found []fault
	for i := range l {
		found = append(found, faultsOfLast(l[:i+1])...)
	}
	for _, o := range l {
		for _, s := range o.Needs {
			_, ok := modelFind(l, s)
			found = append(found, fault{!ok, api.ErrNone})
		}
	}
	for _, o := range l {
		found = append(found, fault{slices.Contains(modelNeeds(l, o.Code), o.Code), api.ErrCircle})
	}
	return first(found)
}

func modelFind(l []api.Offer, code string) (api.Offer, bool) {
	var found api.Offer
	ok := false
	for i := len(l) - 1; i >= 0; i-- {
		if l[i].Code == code {
			found, ok = l[i], true
		}
	}
	return found, ok
}

func modelClash(a, b api.Offer) bool {
	for _, n := range a.Slots {
		for _, m := range b.Slots {
			if n == m {
				return true
			}
		}
	}
	return false
}

// modelNeeds adds what is required directly by what is there, until nothing comes any more.
func modelNeeds(l []api.Offer, code string) []string {
	o, _ := modelFind(l, code)
	all := slices.Clone(o.Needs)
	for at := 0; at < len(all); at++ {
		o, _ := modelFind(l, all[at])
		for _, s := range o.Needs {
			if !slices.Contains(all, s) {
				all = append(all, s)
			}
		}
	}
	slices.Sort(all)
	return slices.Compact(all)
}

func modelOrder(l []api.Offer) []string {
	if modelCheck(l) != api.OK {
		return nil
	}
	var order []string
	for len(order) < len(l) {
		var can []string
		for _, o := range l {
			if !slices.Contains(order, o.Code) && modelMet(l, o.Code, order) {
				can = append(can, o.Code)
			}
		}
		order = append(order, slices.Min(can))
	}
	return order
}

func modelMet(l []api.Offer, code string, has []string) bool {
	o, ok := modelFind(l, code)
	for _, s := range o.Needs {
		ok = ok && slices.Contains(has, s)
	}
	return ok
}

func modelEncode(l []api.Offer) string {
	s := fmt.Sprintf("%d;", len(l))
	for _, o := range l {
		s += fmt.Sprintf("%d:%s%d;%d;[", len(o.Code), o.Code, o.Credits, o.Places)
		for _, n := range o.Slots {
			s += fmt.Sprintf("%d;", n)
		}
		s += "]["
		for _, need := range o.Needs {
			s += fmt.Sprintf("%d:%s", len(need), need)
		}
		s += "]"
	}
	return s
}

// parser reads the form of an encoding from its beginning on.
type parser struct {
	s    string
	fail bool
}

func (p *parser) number(end string) int {
	form, rest, ok := strings.Cut(p.s, end)
	n, err := strconv.Atoi(form)
	if !ok || err != nil || fmt.Sprint(n) != form {
		p.fail, rest = true, ""
	}
	p.s = rest
	return n
}

func (p *parser) text() string {
	n := p.number(":")
	if n < 0 || n > len(p.s) {
		p.fail, n = true, 0
	}
	s := p.s[:n]
	p.s = p.s[n:]
	return s
}

func (p *parser) list(element func()) {
	rest, ok := strings.CutPrefix(p.s, "[")
	p.s, p.fail = rest, p.fail || !ok
	for !p.fail && !strings.HasPrefix(p.s, "]") {
		element()
	}
	p.s = strings.TrimPrefix(p.s, "]")
}

func modelDecode(s string) ([]api.Offer, api.Errno) {
	if len(s) >= 262145 {
		return nil, api.ErrMany
	}
	p := &parser{s: s}
	left := p.number(";")
	var l []api.Offer
	for ; left > 0 && !p.fail; left-- {
		var o api.Offer
		o.Code, o.Credits, o.Places = p.text(), p.number(";"), p.number(";")
		p.list(func() { o.Slots = append(o.Slots, p.number(";")) })
		p.list(func() { o.Needs = append(o.Needs, p.text()) })
		l = append(l, o)
	}
	if p.fail || p.s != "" || left < 0 {
		return nil, api.ErrForm
	}
	return l, api.OK
}

// same reports whether two offers are equal (R1).
func same(a, b api.Offer) bool {
	return a.Code == b.Code && a.Credits == b.Credits && a.Places == b.Places && slices.Equal(a.Slots, b.Slots) && slices.Equal(a.Needs, b.Needs)
}

func sameAll(a, b []api.Offer) bool {
	return slices.EqualFunc(a, b, same)
}

// copied returns l in memory of its own.
func copied(l []api.Offer) []api.Offer {
	l = slices.Clone(l)
	for i, o := range l {
		l[i].Slots, l[i].Needs = slices.Clone(o.Slots), slices.Clone(o.Needs)
	}
	return l
}

// codesOf are the strings of l, and some that few lists have, each once.
func codesOf(l []api.Offer) []string {
	all := []string{"", "A", "A1", "B", "X", "a", "C000", "C059", "\xff"}
	for _, o := range l {
		all = append(append(all, o.Code), o.Needs...)
	}
	slices.Sort(all)
	return slices.Compact(all)
}

// short writes a list for a message.
func short(l []api.Offer) string {
	s := fmt.Sprint(l)
	return s[:min(len(s), 300)]
}

// must returns what the call of Check was to accept.
func must(t *testing.T, l []api.Offer) []api.Offer {
	t.Helper()
	if err := course.Check(l); err != api.OK {
		t.Fatalf("Check of %s = %d", short(l), err)
	}
	return l
}
