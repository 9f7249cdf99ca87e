package group

import (
	"cmp"
	"slices"

	"switchyard/api"
	"switchyard/check"
	"switchyard/eval"
	"switchyard/item"
	"switchyard/value"
)

// meeting is a milestone of a valid choreography and its members, by ascending
// IDs. They share memory with the artifacts handed in.
type meeting struct {
	group   api.Group
	typ     api.Type
	members []api.Item
}

// meet returns the meeting of the artifacts that have a value in common; or the
// first error.
func meet(d api.Def, items []api.Item, name string, v api.Value) (meeting, api.Errno) {
	if check.Check(d) != api.OK {
		return meeting{}, api.ErrNoDef
	}
	g, found := check.Group(d, name)
	if !found {
		return meeting{}, api.ErrName
	}
	t, _ := check.Type(d, g.Type)
	by := check.Place(t.Attrs, g.By)
	if !item.Fits(d, t.Attrs[by], v) {
		return meeting{}, api.ErrKind
	}
	l, bad := sorted(d, items)
	if bad != api.OK {
		return meeting{}, bad
	}
	m := meeting{group: g, typ: t}
	for _, x := range l {
		if x.Type == g.Type && item.Live(d, x) && value.Same(x.Attrs[by], v) {
			m.members = append(m.members, x)
		}
	}
	return m, api.OK
}

// sorted returns artifacts by ascending IDs; or the error of the first one that
// does not fit, or ErrTwice.
func sorted(d api.Def, items []api.Item) ([]api.Item, api.Errno) {
	for _, x := range items {
		if bad := item.Lies(d, x); bad != api.OK {
			return nil, bad
		}
	}
	l := slices.SortedFunc(slices.Values(items), func(a, b api.Item) int { return cmp.Compare(a.ID, b.ID) })
	for i, x := range l {
		if i > 0 && l[i-1].ID == x.ID {
			return nil, api.ErrTwice
		}
	}
	return l, api.OK
}

// able returns OK if a member may move; or the first error.
func (m meeting) able(x api.Item) api.Errno {
	if x.State != m.group.State {
		return api.ErrState
	}
	holds, bad := eval.Holds(m.group.When, eval.Env{Attrs: m.typ.Attrs, Vals: x.Attrs})
	switch {
	case bad != api.OK:
		return bad
	case !holds:
		return api.ErrState
	case !m.complete(x):
		return api.ErrCount
	}
	return api.OK
}

// complete reports whether a member's counters allow the state that it moves
// to.
func (m meeting) complete(x api.Item) bool {
	to, _ := check.State(m.typ, m.group.To)
	for i, p := range m.typ.Ports {
		if to.Final && x.Counts[i] < p.Min {
			return false
		}
	}
	return true
}
