package key

import (
	"strconv"

	"quadrivium/api"
	"quadrivium/digest"
)

// Sign returns the mark of text by the key of r with this id.
func Sign(r api.Ring, id int, text string) (string, api.Errno) {
	i := index(r.Keys, id)
	if i < 0 {
		return "", api.ErrNone
	}
	return digest.Mark(r.Keys[i].Secret, signed(r.School, id, text)), api.OK
}

// Valid returns OK, if mark can be trusted: text says that it is of day, and was published on the day seen.
func Valid(r api.Ring, id int, text, mark string, day, seen int) api.Errno {
	i := index(r.Keys, id)
	if i < 0 {
		return api.ErrNone
	}
	k := r.Keys[i]
	if day < k.From {
		return api.ErrDate
	}
	// A thief can write any day into a text, but not publish it in the past: so the theft is held against seen.
	if !digest.Check(k.Secret, signed(r.School, id, text), mark) || stolen(k, seen) {
		return api.ErrKey
	}
	return api.OK
}

// signed returns what is marked for text, so that a mark is of one school, and one of its keys.
func signed(school, id int, text string) string {
	return strconv.Itoa(school) + " " + strconv.Itoa(id) + " " + text
}
