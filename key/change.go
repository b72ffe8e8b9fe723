package key

import (
	"slices"

	"quadrivium/api"
)

// draft is a ring that can be changed, as its keys are its own.
type draft struct {
	api.Ring
}

func newDraft(r api.Ring) *draft {
	r.Keys = slices.Clone(r.Keys)
	return &draft{r}
}

func (d *draft) add(k api.Key) {
	d.Keys = append(d.Keys, k)
}

// steal notes the theft of the key at i, unless there was an earlier one.
func (d *draft) steal(i, day int) {
	if k := &d.Keys[i]; k.Stolen == 0 || day < k.Stolen {
		k.Stolen = day
	}
}

// Add returns r with k after its keys.
func Add(r api.Ring, k api.Key) (api.Ring, api.Errno) {
	if err := Check(r); err != api.OK {
		return api.Ring{}, err
	}
	d := newDraft(r)
	d.add(k)
	if err := Check(d.Ring); err != api.OK {
		return api.Ring{}, err
	}
	return d.Ring, api.OK
}

// Steal returns r with the theft of the key with this id on day.
func Steal(r api.Ring, id, day int) (api.Ring, api.Errno) {
	if err := Check(r); err != api.OK {
		return api.Ring{}, err
	}
	i := index(r.Keys, id)
	if i < 0 {
		return api.Ring{}, api.ErrNone
	}
	if !canSteal(r.Keys[i], day) {
		return api.Ring{}, api.ErrDate
	}
	d := newDraft(r)
	d.steal(i, day)
	return d.Ring, api.OK
}
