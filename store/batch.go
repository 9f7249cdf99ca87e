package store

import (
	"slices"
	"strings"

	"switchyard/api"
	"switchyard/pack"
)

const (
	mostChanges = 8192  // of a batch
	mostValue   = 65536 // bytes of a value
)

// Change is a key's new value, or that it is gone.
type Change struct {
	Key, Value string
	Gone       bool
}

// Pack returns the encoding of a batch, or the first error.
func Pack(l ...Change) (string, api.Errno) {
	switch {
	case len(l) > mostChanges:
		return "", api.ErrMany
	case slices.ContainsFunc(l, long):
		return "", api.ErrLong
	}
	var out strings.Builder
	out.WriteString(pack.Count(uint64(len(l))))
	for _, c := range l {
		out.WriteString(pack.Truth(c.Gone))
		out.WriteString(pack.Text(c.Key))
		if !c.Gone {
			out.WriteString(pack.Text(c.Value))
		}
	}
	return out.String(), api.OK
}

// Unpack returns the batch whose encoding is s, or the first error.
func Unpack(s string) ([]Change, api.Errno) {
	r := pack.New(s)
	var l []Change
	for range r.Small(mostChanges) {
		c := Change{Gone: r.Truth(), Key: r.Text(api.MaxText)}
		if !c.Gone {
			c.Value = r.Text(mostValue)
		}
		// The bytes may end long before the changes that were announced.
		if bad := r.Bad(); bad != api.OK {
			return nil, bad
		}
		l = append(l, c)
	}
	if bad := r.End(); bad != api.OK {
		return nil, bad
	}
	return l, api.OK
}

// long tells whether a change has a key or a value that is too long. A deletion
// has no value, whatever stands there.
func long(c Change) bool {
	return len(c.Key) > api.MaxText || !c.Gone && len(c.Value) > mostValue
}
