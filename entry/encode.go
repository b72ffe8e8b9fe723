package entry

import (
	"strings"

	"quadrivium/api"
	"quadrivium/wire"
)

// Body returns the bytes of e that are signed: all but its mark.
func Body(e api.Entry) string {
	return ints(e.Id, e.School, e.Student, e.Kind, e.Day, e.On) +
		wire.Text(e.Course) +
		ints(e.Credits, e.Grade, e.Ref, e.From, e.Programme, e.Version, e.Key)
}

// Encode returns the bytes of e.
func Encode(e api.Entry) string {
	return Body(e) + wire.Text(e.Mark)
}

func ints(l ...int) string {
	var b strings.Builder
	for _, n := range l {
		b.WriteString(wire.Int(n))
	}
	return b.String()
}

// Decode returns the entry of which Encode returns s.
func Decode(s string) (api.Entry, api.Errno) {
	if len(s) > api.MaxBytes {
		return api.Entry{}, api.ErrMany
	}
	r := wire.New(s)
	e := api.Entry{
		Id: r.Int(), School: r.Int(), Student: r.Int(), Kind: r.Int(), Day: r.Int(), On: r.Int(),
		Course:  r.Text(),
		Credits: r.Int(), Grade: r.Int(), Ref: r.Int(), From: r.Int(), Programme: r.Int(), Version: r.Int(), Key: r.Int(),
		Mark: r.Text(),
	}
	if r.Bad() || r.Left() > 0 {
		return api.Entry{}, api.ErrForm
	}
	return e, api.OK
}
