package need

import (
	"cmp"
	"slices"

	"quadrivium/api"
	"quadrivium/course"
)

// Limits of requirements that package api does not have.
const (
	maxLevels = 5
	maxTotal  = api.MaxUse * api.MaxCredits // credits of all achievements that are used
)

// kind is what the errors of a Kind of node are told by, whatever nodes its L has.
type kind struct {
	check func(n api.Need) api.Errno
}

// kinds returns the Kinds that there are.
func kinds() map[int]kind {
	return map[int]kind{
		api.NeedCourse:  {checkCourse},
		api.NeedCredits: {checkCredits},
		api.NeedAll:     {checkEvery},
		api.NeedSome:    {checkSome},
	}
}

// Check returns OK, if n is a right requirement.
func Check(n api.Need) api.Errno {
	_, leaves := measure(n, api.MaxNodes, maxLevels)
	if !within(leaves, 1, api.MaxLeaves) {
		return api.ErrMany
	}
	all := kinds()
	for _, node := range nodes(n) {
		k, ok := all[node.Kind]
		if !ok {
			return api.ErrNeed
		}
		if err := k.check(node); err != api.OK {
			return err
		}
	}
	return api.OK
}

func checkCourse(n api.Need) api.Errno {
	if n.N != 0 || len(n.L) > 0 {
		return api.ErrNeed
	}
	return checkLeaf(n)
}

func checkCredits(n api.Need) api.Errno {
	if len(n.L) > 0 {
		return api.ErrNeed
	}
	if !within(n.N, 1, maxTotal) {
		return api.ErrRange
	}
	return checkLeaf(n)
}

// checkLeaf returns OK, if Min and Set of n are those of a leaf.
func checkLeaf(n api.Need) api.Errno {
	switch {
	case !within(n.Min, -api.MaxGrade, api.MaxGrade):
		return api.ErrRange
	case !within(len(n.Set), 1, api.MaxSet):
		return api.ErrMany
	case slices.ContainsFunc(n.Set, wrong):
		return api.ErrArg
	case !ordered(n.Set, compare):
		return api.ErrOrder
	}
	return api.OK
}

func checkEvery(n api.Need) api.Errno {
	if !inner(n) || n.N != 0 {
		return api.ErrNeed
	}
	return api.OK
}

func checkSome(n api.Need) api.Errno {
	if !inner(n) {
		return api.ErrNeed
	}
	if !within(n.N, 1, len(n.L)) {
		return api.ErrRange
	}
	return api.OK
}

// inner reports whether n has nodes below it, and nothing that only leaves have.
func inner(n api.Need) bool {
	return n.Min == 0 && len(n.Set) == 0 && len(n.L) > 0
}

// wrong reports whether c is no course that a school can have.
func wrong(c api.Course) bool {
	return !within(c.School, 1, api.MaxSchools) || !course.Code(c.Code)
}

func within[T cmp.Ordered](n, low, high T) bool {
	return low <= n && n <= high
}

// ordered reports whether each element of l precedes the next one.
func ordered[T any](l []T, order func(a, b T) int) bool {
	for i := 1; i < len(l); i++ {
		if order(l[i-1], l[i]) >= 0 {
			return false
		}
	}
	return true
}
