package store

import (
	"maps"
	"slices"
	"strings"
)

// table has each key's change that set it.
type table map[string]Change

// apply applies changes, in their order. It keeps copies of them.
func (t table) apply(l ...Change) {
	for _, c := range l {
		if c.Gone {
			delete(t, c.Key)
			continue
		}
		key := strings.Clone(c.Key)
		t[key] = Change{Key: key, Value: strings.Clone(c.Value)}
	}
}

// after returns what the table is to be behind these changes. It stays as it is.
func (t table) after(l ...Change) table {
	next := maps.Clone(t)
	next.apply(l...)
	return next
}

// all returns the batch that sets every key, in ascending order.
func (t table) all() []Change {
	var l []Change
	for _, key := range slices.Sorted(maps.Keys(t)) {
		l = append(l, t[key])
	}
	return l
}
