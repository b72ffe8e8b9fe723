package scale

import (
	"quadrivium/api"
	"quadrivium/ratio"
)

// Mean returns the mean of the grades, each of which weighs as much as its credits.
func Mean(grades, credits []int) (api.Ratio, api.Errno) {
	if err := checkLists(grades, credits); err != api.OK {
		return api.Ratio{}, err
	}
	sum := func(part func(i int) int) int {
		total := 0
		for i := range grades {
			total += part(i)
		}
		return total
	}
	points := sum(func(i int) int { return grades[i] * credits[i] })
	weight := sum(func(i int) int { return credits[i] })
	return ratio.Of(points, weight)
}

// checkLists returns OK, if there is a mean of the grades with these credits.
func checkLists(grades, credits []int) api.Errno {
	if len(grades) != len(credits) || len(grades) == 0 {
		return api.ErrArg
	}
	if len(grades) > api.MaxEntries {
		return api.ErrMany
	}
	for i := range grades {
		if !graded(grades[i]) || !within(credits[i], 1, api.MaxCredits) {
			return api.ErrRange
		}
	}
	return api.OK
}
