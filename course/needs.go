package course

import (
	"slices"

	"quadrivium/api"
)

// deepest is how many required codes are followed one inside the other. A chain in a list that is not right can be longer than the stack has room for.
const deepest = 1000

// required returns what each code of l requires directly. The first offer with a code counts.
func required(l []api.Offer) map[string][]string {
	direct := make(map[string][]string, len(l))
	for _, o := range l {
		if _, twice := direct[o.Code]; !twice {
			direct[o.Code] = o.Needs
		}
	}
	return direct
}

// closed reports whether all that is required has an offer.
func closed(direct map[string][]string) bool {
	for _, needs := range direct {
		for _, s := range needs {
			if _, ok := direct[s]; !ok {
				return false
			}
		}
	}
	return true
}

// circular reports whether a code leads to itself. There are no more codes than a right catalog has.
func circular(direct map[string][]string) bool {
	// Each code that was visited, and whether the visit goes on: then all that is met leads back to it.
	open := map[string]bool{}
	var visit func(code string) bool
	visit = func(code string) bool {
		if goesOn, visited := open[code]; visited {
			return goesOn
		}
		open[code] = true
		if slices.ContainsFunc(direct[code], visit) {
			return true
		}
		open[code] = false
		return false
	}
	for code := range direct {
		if visit(code) {
			return true
		}
	}
	return false
}

// Needs returns all strings to which code leads in l, in their order.
func Needs(l []api.Offer, code string) []string {
	var all []string
	for s := range follow(required(l), code) {
		all = append(all, s)
	}
	slices.Sort(all)
	return all
}

// follow returns the set of all strings to which code leads.
func follow(direct map[string][]string, code string) map[string]bool {
	found := map[string]bool{}
	later := []string{code}
	var visit func(code string, depth int)
	visit = func(code string, depth int) {
		if depth > deepest {
			later = append(later, code)
			return
		}
		for _, s := range direct[code] {
			if !found[s] {
				found[s] = true
				visit(s, depth+1)
			}
		}
	}
	for len(later) > 0 {
		next := later[len(later)-1]
		later = later[:len(later)-1]
		visit(next, 1)
	}
	return found
}

// Order returns the codes of l in an order in which they can be taken, or nothing, if l is not right.
func Order(l []api.Offer) []string {
	if Check(l) != api.OK {
		return nil
	}
	var order []string
	done := map[string]bool{}
	// A right catalog has no circle, so each time there is a code for which all is there.
	for range l {
		i := slices.IndexFunc(l, func(o api.Offer) bool { return !done[o.Code] && allIn(o.Needs, done) })
		done[l[i].Code] = true
		order = append(order, l[i].Code)
	}
	return order
}

// Met reports whether l has an offer with this code, and all that it requires directly is in has.
func Met(l []api.Offer, code string, has []string) bool {
	i := index(l, code)
	return i >= 0 && allIn(l[i].Needs, setOf(has))
}

func allIn(l []string, set map[string]bool) bool {
	return !slices.ContainsFunc(l, func(s string) bool { return !set[s] })
}
