package course

import (
	"strings"

	"quadrivium/api"
	"quadrivium/wire"
)

// Encode returns the bytes of l.
func Encode(l []api.Offer) string {
	var b strings.Builder
	write := b.WriteString
	write(wire.Int(len(l)))
	for _, o := range l {
		write(wire.Text(o.Code))
		write(wire.Int(o.Credits))
		write(wire.Int(o.Places))
		write(wire.Ints(o.Slots))
		write(wire.Texts(o.Needs))
	}
	return b.String()
}

// Decode returns the list of which Encode returns s.
func Decode(s string) ([]api.Offer, api.Errno) {
	if len(s) > api.MaxBytes {
		return nil, api.ErrMany
	}
	r := wire.New(s)
	n := r.Int()
	var l []api.Offer
	// n may be far more than there are offers in s.
	for len(l) < n && !r.Bad() {
		l = append(l, decodeOffer(r))
	}
	if n < 0 || r.Bad() || r.Left() > 0 {
		return nil, api.ErrForm
	}
	return l, api.OK
}

func decodeOffer(r *wire.Reader) api.Offer {
	return api.Offer{Code: r.Text(), Credits: r.Int(), Places: r.Int(), Slots: r.Ints(), Needs: r.Texts()}
}
