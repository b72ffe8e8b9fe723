package entry_test

import (
	"slices"
	"testing"

	"quadrivium/api"
	"quadrivium/entry"
)

// TestArguments: R3: Sign changes neither the ring, nor memory before and behind its keys.
func TestArguments(t *testing.T) {
	for _, e := range append(rightEntries(), api.Entry{}, api.Entry{School: 3}) {
		for _, r := range rings(e.School) {
			all := slices.Concat([]api.Key{{Id: 90, Secret: "before"}}, r.Keys, []api.Key{{Id: 91, Secret: "behind"}, {Id: 92}})
			before := slices.Clone(all)
			r.Keys = all[1 : 1+len(r.Keys)]
			for _, id := range append(ids(), 90, 91, 92) {
				wantSign(t, r, id, e)
				r.School++
				wantSign(t, r, id, e)
				r.School--
			}
			if !slices.Equal(all, before) {
				t.Errorf("%+v was changed to %+v", before, all)
			}
		}
	}
}

// TestKept: R3: a signed entry stays as it is, whatever is done to the ring afterwards.
func TestKept(t *testing.T) {
	r := rings(1)[0]
	e, _ := entry.Sign(r, 1, example())
	before := entry.Encode(e)
	r.Keys[0] = api.Key{Id: 5, Secret: "other"}
	if entry.Encode(e) != before {
		t.Errorf("%q became %q", before, entry.Encode(e))
	}
}

// TestAgain: R4: the same calls return the same results.
func TestAgain(t *testing.T) {
	for _, e := range slices.Concat(rightEntries(), wrongEntries()[:200]) {
		check, body, bytes, k := entry.Check(e), entry.Body(e), entry.Encode(e), entry.Key(e)
		signed, err := entry.Sign(rings(e.School)[0], 1, e)
		entry.Sign(rings(2)[1], 4, example())
		got, gotErr := entry.Sign(rings(e.School)[0], 1, e)
		if entry.Check(e) != check || entry.Body(e) != body || entry.Encode(e) != bytes || entry.Key(e) != k || got != signed || gotErr != err {
			t.Errorf("%+v: another result", e)
		}
	}
}
