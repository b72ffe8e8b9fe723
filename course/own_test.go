package course_test

import (
	"slices"
	"testing"

	"quadrivium/api"
	"quadrivium/course"
)

// roomy lays l into memory in which others stand before and behind each list, and returns all this memory, too.
func roomy(l []api.Offer) (in, offers []api.Offer, slots [][]int, needs [][]string) {
	offers = slices.Concat([]api.Offer{plain("0")}, copied(l), []api.Offer{plain("Y"), plain("Z")})
	for i, o := range offers {
		n := slices.Concat([]int{90}, o.Slots, []int{91, 92})
		s := slices.Concat([]string{"x"}, o.Needs, []string{"y", "z"})
		offers[i].Slots, offers[i].Needs = n[1:1+len(o.Slots)], s[1:1+len(o.Needs)]
		slots, needs = append(slots, n), append(needs, s)
	}
	return offers[1 : 1+len(l)], offers, slots, needs
}

// spoil overwrites all the memory that l reaches, also behind its ends.
func spoil(l []api.Offer) {
	for i := range l {
		spoilList(l[i].Slots, -77)
		spoilList(l[i].Needs, "spoilt")
	}
	spoilList(l, api.Offer{Code: "spoilt"})
}

func spoilList[T any](l []T, v T) {
	for i := range l[:cap(l)] {
		l[:cap(l)][i] = v
	}
}

// TestArguments: R3: no argument is changed, nor memory behind it, and what is done to a result changes none.
func TestArguments(t *testing.T) {
	for _, l := range slices.Concat(rightCatalogs()[:8], wrongLists()[:12], [][]api.Offer{wrongLists()[23], wrongLists()[33]}) {
		in, offers, slots, needs := roomy(l)
		before := copied(offers)
		has := []string{"B2", "A1", "behind"}
		course.Check(in)
		spoilList(course.Order(in), "spoilt")
		course.Encode(in)
		for _, code := range codesOf(l) {
			o, _ := course.Find(in, code)
			spoil([]api.Offer{o})
			spoilList(course.Needs(in, code), "spoilt")
			course.Met(in, code, has[:2])
		}
		for i := range in {
			course.Clash(in[i], in[0])
		}
		if !sameAll(offers, before) || !slices.Equal(has, []string{"B2", "A1", "behind"}) {
			t.Errorf("%s was changed to %s", short(l), short(in))
		}
		for i := range offers {
			if n, s := slots[i], needs[i]; n[0] != 90 || n[len(n)-2] != 91 || n[len(n)-1] != 92 || s[0] != "x" || s[len(s)-2] != "y" || s[len(s)-1] != "z" {
				t.Errorf("the memory around the lists of %s was changed: %v, %v", short(l), n, s)
			}
		}
	}
}

// TestResults: R3: no two results, and no two lists of one result, share memory.
func TestResults(t *testing.T) {
	for _, l := range rightCatalogs() {
		s := course.Encode(l)
		want, _ := course.Decode(s)
		got, _ := course.Decode(s)
		for i := range got {
			rest := copied(got[i+1:])
			got[i].Slots, got[i].Needs = append(got[i].Slots, -77), append(got[i].Needs, "spoilt")
			spoil(got[i : i+1 : i+1])
			if !sameAll(got[i+1:], rest) {
				t.Fatalf("Decode of %q shares memory", s)
			}
		}
		if !sameAll(want, l) {
			t.Errorf("two lists of Decode of %q share memory", s)
		}
		for _, o := range l {
			a, _ := course.Find(l, o.Code)
			b, _ := course.Find(l, o.Code)
			spoil([]api.Offer{a})
			needs := course.Needs(l, o.Code)
			spoilList(course.Needs(l, o.Code), "spoilt")
			if !same(b, o) || !slices.Equal(needs, course.Needs(l, o.Code)) {
				t.Errorf("two results of Find or Needs of %s share memory", o.Code)
			}
		}
	}
}

// TestAgain: R4: the same calls return the same, whatever came between, and in whatever order a map gives its keys.
func TestAgain(t *testing.T) {
	lists := slices.Concat(rightCatalogs(), wrongLists())
	for range 20 {
		for _, l := range lists {
			checkCheck(t, l)
			if !slices.Equal(course.Order(l), modelOrder(l)) {
				t.Errorf("Order of %s", short(l))
			}
			for _, code := range []string{"A", "C000", "C059"} {
				if !slices.Equal(course.Needs(l, code), modelNeeds(l, code)) {
					t.Errorf("Needs of %s in %s", code, short(l))
				}
			}
		}
	}
}
