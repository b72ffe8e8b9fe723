// Package wire is layer 1: see shared/doc/01-wire.md.
package wire

import (
	"strconv"
	"strings"
)

// longest is the number of bytes of the longest decimal form of an int.
const longest = len("-9223372036854775808")

// Int serializes n.
func Int(n int) string {
	return strconv.Itoa(n) + ";"
}

// Text serializes s, whatever bytes it has.
func Text(s string) string {
	return strconv.Itoa(len(s)) + ":" + s
}

// Ints serializes l.
func Ints(l []int) string {
	return list(l, Int)
}

// Texts serializes l.
func Texts(l []string) string {
	return list(l, Text)
}

func list[T any](l []T, element func(T) string) string {
	var b strings.Builder
	b.WriteByte('[')
	for _, v := range l {
		b.WriteString(element(v))
	}
	b.WriteByte(']')
	return b.String()
}

// Reader decodes a concatenation of serializations from its beginning on. The zero Reader has nothing to decode; a nil one is bad.
type Reader struct {
	rest string // what follows the position
	bad  bool
}

// New returns a reader of s.
func New(s string) *Reader {
	return &Reader{rest: s}
}

// Int decodes what Int serializes.
func (r *Reader) Int() int {
	n, _ := r.number(';')
	return n
}

// Text decodes what Text serializes.
func (r *Reader) Text() string {
	var s string
	n, ok := r.number(':')
	if !ok || n < 0 || n > len(r.rest) {
		goto malformed
	}
	s, r.rest = r.rest[:n], r.rest[n:]
	return s
malformed:
	r.fail()
	return ""
}

// Ints decodes what Ints serializes.
func (r *Reader) Ints() []int {
	return elements(r, r.Int)
}

// Texts decodes what Texts serializes.
func (r *Reader) Texts() []string {
	return elements(r, r.Text)
}

// Left returns the number of bytes that are not decoded yet.
func (r *Reader) Left() int {
	if r.Bad() {
		return 0
	}
	return len(r.rest)
}

// Bad reports whether the reader has met malformed input.
func (r *Reader) Bad() bool {
	return r == nil || r.bad
}

// number decodes a decimal form and the byte end behind it.
func (r *Reader) number(end byte) (int, bool) {
	var form string
	var at, n int
	var err error
	if r.Bad() {
		goto malformed
	}
	at = strings.IndexByte(r.rest[:min(len(r.rest), longest+1)], end)
	if at < 0 {
		goto malformed
	}
	form = r.rest[:at]
	n, err = strconv.Atoi(form)
	// Atoi also takes a plus sign, leading zeros and -0, which no decimal form has.
	if err != nil || strconv.Itoa(n) != form {
		goto malformed
	}
	r.rest = r.rest[at+1:]
	return n, true
malformed:
	r.fail()
	return 0, false
}

// elements decodes a list, of which next decodes each element from r.
func elements[T any](r *Reader, next func() T) []T {
	var l []T
	if !r.skip('[') {
		goto malformed
	}
	for !r.skip(']') {
		v := next()
		if r.Bad() {
			goto malformed
		}
		l = append(l, v)
	}
	return l
malformed:
	r.fail()
	return nil
}

// skip moves the position after c, if c is there.
func (r *Reader) skip(c byte) bool {
	if r.Bad() || r.rest == "" || r.rest[0] != c {
		return false
	}
	r.rest = r.rest[1:]
	return true
}

func (r *Reader) fail() {
	if r != nil {
		*r = Reader{bad: true}
	}
}
