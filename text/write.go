package text

import (
	"strconv"
	"strings"

	"quadrivium/api"
)

// programmeText returns the lines of p, which is right.
func programmeText(p api.Programme) string {
	s := "programme " + strconv.Itoa(p.School) + " " + strconv.Itoa(p.Id) + " version " + strconv.Itoa(p.Version) + " from " + strconv.Itoa(p.From) + ` "` + p.Name + "\"\n"
	s += "total " + strconv.Itoa(p.Total) + " own " + strconv.Itoa(p.Own) + " age " + strconv.Itoa(p.Age) + "\n"
	for _, pair := range p.Exclude {
		s += "exclude" + coursesText(pair[:]) + "\n"
	}
	return s + "need " + needText(p.Need) + "\n"
}

// needText returns the text of n, which is right.
func needText(n api.Need) string {
	switch n.Kind {
	case api.NeedCourse:
		return "course " + strconv.Itoa(n.Min) + " of" + coursesText(n.Set)
	case api.NeedCredits:
		return strconv.Itoa(n.N) + " credits " + strconv.Itoa(n.Min) + " of" + coursesText(n.Set)
	case api.NeedAll:
		return "all " + listText(n.L)
	}
	return strconv.Itoa(n.N) + " some " + listText(n.L)
}

// coursesText returns the courses of l, each behind a blank.
func coursesText(l []api.Course) string {
	s := ""
	for _, c := range l {
		s += " " + strconv.Itoa(c.School) + ":" + c.Code
	}
	return s
}

// listText returns the texts of l in brackets.
func listText(l []api.Need) string {
	texts := make([]string, len(l))
	for i, n := range l {
		texts[i] = needText(n)
	}
	return "(" + strings.Join(texts, "; ") + ")"
}
