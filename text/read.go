package text

import (
	"strings"

	"quadrivium/api"
)

// maxText is how many bytes are read at most.
const maxText = 4096

// reader reads tokens, the first one first. It is left by a panic, if they are not what it is to read.
type reader struct {
	rest []string // tokens that are not read yet
}

// read returns what part reads from all of s, if check has no error for it.
func read[T any](s string, part func(r *reader) T, check func(v T) api.Errno) (v T, err api.Errno) {
	if len(s) > maxText {
		return v, api.ErrMany
	}
	defer func() {
		if recover() != nil {
			err = api.ErrForm
		}
	}()
	r := &reader{}
	for token := range tokens(s) {
		r.rest = append(r.rest, token)
	}
	said := part(r)
	if len(r.rest) > 0 {
		panic(api.ErrForm)
	}
	if err := check(said); err != api.OK {
		return v, err
	}
	return said, api.OK
}

// programme reads the lines of a programme.
func (r *reader) programme() api.Programme {
	var p api.Programme
	p.School = r.numberAfter("programme")
	p.Id = r.number()
	p.Version = r.numberAfter("version")
	p.From = r.numberAfter("from")
	p.Name = r.name()
	p.Total = r.numberAfter("total")
	p.Own = r.numberAfter("own")
	p.Age = r.numberAfter("age")
	for r.accept("exclude") {
		p.Exclude = append(p.Exclude, [2]api.Course{r.course(), r.course()})
	}
	r.expect("need")
	p.Need = r.need()
	return p
}

// need reads a requirement.
func (r *reader) need() api.Need {
	if r.accept("course") {
		return r.leaf(api.Need{Kind: api.NeedCourse})
	}
	if r.accept("all") {
		return api.Need{Kind: api.NeedAll, L: r.list()}
	}
	n := r.number()
	if r.accept("credits") {
		return r.leaf(api.Need{Kind: api.NeedCredits, N: n})
	}
	r.expect("some")
	return api.Need{Kind: api.NeedSome, N: n, L: r.list()}
}

// leaf reads Min and Set of n.
func (r *reader) leaf(n api.Need) api.Need {
	n.Min = r.number()
	r.expect("of")
	for r.atCourse() {
		n.Set = append(n.Set, r.course())
	}
	return n
}

// list reads requirements in brackets.
func (r *reader) list() []api.Need {
	r.expect("(")
	if r.accept(")") {
		return nil
	}
	l := []api.Need{r.need()}
	for r.accept(";") {
		l = append(l, r.need())
	}
	r.expect(")")
	return l
}

// name reads a string, and returns what stands between its quotes.
func (r *reader) name() string {
	s, ok := strings.CutPrefix(r.next(), `"`)
	if !ok {
		panic(api.ErrForm)
	}
	return strings.TrimSuffix(s, `"`)
}

func (r *reader) course() api.Course {
	c, ok := toCourse(r.next())
	if !ok {
		panic(api.ErrForm)
	}
	return c
}

// atCourse reports whether a course is what stands next.
func (r *reader) atCourse() bool {
	if len(r.rest) == 0 {
		return false
	}
	_, ok := toCourse(r.rest[0])
	return ok
}

func (r *reader) number() int {
	n, ok := toNumber(r.next())
	if !ok {
		panic(api.ErrForm)
	}
	return n
}

func (r *reader) numberAfter(token string) int {
	r.expect(token)
	return r.number()
}

// next reads any token.
func (r *reader) next() string {
	if len(r.rest) == 0 {
		panic(api.ErrForm)
	}
	token := r.rest[0]
	r.rest = r.rest[1:]
	return token
}

// expect reads this token.
func (r *reader) expect(token string) {
	if !r.accept(token) {
		panic(api.ErrForm)
	}
}

// accept reads this token, if it stands next, and reports whether it did.
func (r *reader) accept(token string) bool {
	if len(r.rest) == 0 || r.rest[0] != token {
		return false
	}
	r.rest = r.rest[1:]
	return true
}
