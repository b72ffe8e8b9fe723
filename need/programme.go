package need

import (
	"slices"

	"quadrivium/api"
)

// Limits of programmes that package api does not have.
const (
	maxId   = 999999
	maxAge  = 100 // terms
	maxName = 40  // bytes
)

// CheckAll returns OK, if p is a right version of a programme.
func CheckAll(p api.Programme) api.Errno {
	switch {
	case !within(p.School, 1, api.MaxSchools):
		return api.ErrArg
	case !within(p.Id, 1, maxId) || !within(p.Version, 1, api.MaxVersions) || !within(p.From, 0, api.MaxDay):
		return api.ErrRange
	case !within(p.Total, 0, maxTotal) || !within(p.Own, 0, maxTotal) || !within(p.Age, 0, maxAge):
		return api.ErrRange
	case !named(p.Name):
		return api.ErrArg
	}
	if err := Check(p.Need); err != api.OK {
		return err
	}
	return checkPairs(p.Exclude)
}

// named reports whether s can be the name of a programme.
func named(s string) bool {
	if !within(len(s), 1, maxName) {
		return false
	}
	for i := range len(s) {
		if !within(s[i], ' ', '~') || s[i] == '"' {
			return false
		}
	}
	return true
}

// checkPairs returns OK, if a programme can exclude the pairs of l.
func checkPairs(l [][2]api.Course) api.Errno {
	if len(l) > api.MaxExclude {
		return api.ErrMany
	}
	for i, pair := range l {
		switch {
		case slices.ContainsFunc(pair[:], wrong):
			return api.ErrArg
		case !ordered(pair[:], compare):
			return api.ErrOrder
		case slices.Contains(l[:i], pair):
			return api.ErrTwice
		}
	}
	return api.OK
}

// SameAll reports whether a and b are equal.
func SameAll(a, b api.Programme) bool {
	return sameNumbers(a, b) && a.Name == b.Name && slices.Equal(a.Exclude, b.Exclude) && Same(a.Need, b.Need)
}

func sameNumbers(a, b api.Programme) bool {
	return a.School == b.School && a.Id == b.Id && a.Version == b.Version && a.From == b.From && a.Total == b.Total && a.Own == b.Own && a.Age == b.Age
}
