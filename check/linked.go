package check

import (
	"slices"

	"switchyard/api"
	"switchyard/expr"
)

// linked returns the first error of what the parts of a choreography say of
// each other. No two that need names of their own have the same.
func linked(d api.Def) api.Errno {
	if bad := each(d.Types, func(t api.Type) api.Errno { return checkType(d, t) }); bad != api.OK {
		return bad
	}
	if bad := each(d.Channels, func(c api.Channel) api.Errno { return checkChannel(d, c) }); bad != api.OK {
		return bad
	}
	if bad := each(d.Groups, func(g api.Group) api.Errno { return checkGroup(d, g) }); bad != api.OK {
		return bad
	}
	return each(d.Roles, func(r api.Role) api.Errno { return checkRole(d, r) })
}

// each returns the first error of the elements.
func each[T any](l []T, check func(T) api.Errno) api.Errno {
	for _, x := range l {
		if bad := check(x); bad != api.OK {
			return bad
		}
	}
	return api.OK
}

func checkType(d api.Def, t api.Type) api.Errno {
	if bad := each(t.Attrs, func(a api.Attr) api.Errno { return checkAttr(d, a) }); bad != api.OK {
		return bad
	}
	switch {
	case len(t.Key) == 0:
		return api.ErrCount
	case !hasAttrs(t, t.Key):
		return api.ErrNone
	case !startsOnce(t.States):
		return api.ErrState
	}
	if bad := each(t.Ports, checkPort); bad != api.OK {
		return bad
	}
	return each(t.Moves, func(m api.Move) api.Errno { return checkMove(d, t, m) })
}

func checkAttr(d api.Def, a api.Attr) api.Errno {
	switch {
	case expr.Taken(a.Name):
		return api.ErrName
	case a.Kind == api.Sym && !hasEnum(d, a.Enum):
		return api.ErrNone
	}
	return api.OK
}

// startsOnce reports whether one state alone is the start, and not final too.
func startsOnce(l []api.State) bool {
	starts := slices.DeleteFunc(slices.Clone(l), func(s api.State) bool { return !s.Start })
	return len(starts) == 1 && !starts[0].Final
}

func checkPort(p api.Port) api.Errno {
	if p.Max < 1 || p.Max > api.MaxCount || p.Min > p.Max {
		return api.ErrCount
	}
	return api.OK
}

func checkMove(d api.Def, t api.Type, m api.Move) api.Errno {
	from, _ := stateOf(t, m.From)
	switch {
	case !hasStates(t, m.From, m.To):
		return api.ErrNone
	case from.Final:
		return api.ErrState
	case m.On != "" && !hasPort(t, m.On, false):
		return api.ErrNone
	case m.After > api.MaxTime:
		return api.ErrArg
	}
	s := scope{enums: d.Enums, attrs: t.Attrs}
	if m.On != "" {
		s.fields = Fields(d, t.Name, m.On)
	}
	if bad := s.condition(m.When); bad != api.OK {
		return bad
	}
	if bad := each(m.Sets, func(one api.Set) api.Errno { return s.set(t.Key, one) }); bad != api.OK {
		return bad
	}
	if slices.ContainsFunc(m.Sends, func(port string) bool { return !hasPort(t, port, true) }) {
		return api.ErrNone
	}
	return api.OK
}

// checkChannel needs types without errors.
func checkChannel(d api.Def, c api.Channel) api.Errno {
	from, _ := typeOf(d, c.From)
	to, _ := typeOf(d, c.To)
	switch {
	case !hasPort(from, c.FromPort, true) || !hasPort(to, c.ToPort, false):
		return api.ErrNone
	case len(c.By) != len(to.Key):
		return api.ErrKind
	}
	s := scope{enums: d.Enums, attrs: from.Attrs}
	for i, e := range c.By {
		if bad := s.fit(e, to.Attrs[Place(to.Attrs, to.Key[i])]); bad != api.OK {
			return bad
		}
	}
	switch {
	case c.Low > c.High || c.High < 1 || c.High > api.MaxCount || c.Spawn && c.Low > 1:
		return api.ErrCount
	case !hasAttrs(from, c.Carry):
		return api.ErrNone
	case !slices.Equal(carried(from, c), Fields(d, c.To, c.ToPort)):
		return api.ErrKind
	}
	return api.OK
}

func checkGroup(d api.Def, g api.Group) api.Errno {
	t, _ := typeOf(d, g.Type)
	state, _ := stateOf(t, g.State)
	switch {
	case !hasStates(t, g.State, g.To):
		return api.ErrNone
	case state.Final:
		return api.ErrState
	case Place(t.Attrs, g.By) < 0:
		return api.ErrNone
	case g.Low < 1 || g.Low > g.High || g.High > api.MaxCount:
		return api.ErrCount
	}
	return scope{enums: d.Enums, attrs: t.Attrs}.condition(g.When)
}

func checkRole(d api.Def, r api.Role) api.Errno {
	if bad := each(r.Sees, func(s api.Sight) api.Errno { return checkSight(d, s) }); bad != api.OK {
		return bad
	}
	return each(r.May, func(one api.Right) api.Errno { return checkRight(d, one) })
}

func checkSight(d api.Def, s api.Sight) api.Errno {
	t, found := typeOf(d, s.Type)
	if !found || !hasAttrs(t, s.Attrs) || !hasStates(t, s.States...) {
		return api.ErrNone
	}
	return scope{enums: d.Enums, attrs: t.Attrs}.condition(s.Where)
}

func checkRight(d api.Def, r api.Right) api.Errno {
	t, found := typeOf(d, r.Type)
	m, moves := moveOf(t, r.Move)
	switch {
	case !found || r.Move != "" && !moves:
		return api.ErrNone
	case m.On != "":
		return api.ErrState
	}
	return api.OK
}
