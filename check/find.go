package check

import (
	"slices"

	"switchyard/api"
)

// find returns the first element for which something holds.
func find[T any](l []T, holds func(T) bool) (T, bool) {
	if i := slices.IndexFunc(l, holds); i >= 0 {
		return l[i], true
	}
	var none T
	return none, false
}

// What these return is part of what they were given: only copies of it may
// leave the package.

func typeOf(d api.Def, name string) (api.Type, bool) {
	return find(d.Types, func(t api.Type) bool { return t.Name == name })
}

func stateOf(t api.Type, name string) (api.State, bool) {
	return find(t.States, func(s api.State) bool { return s.Name == name })
}

func moveOf(t api.Type, name string) (api.Move, bool) {
	return find(t.Moves, func(m api.Move) bool { return m.Name == name })
}

func hasEnum(d api.Def, name string) bool {
	return slices.ContainsFunc(d.Enums, func(e api.Enum) bool { return e.Name == name })
}

// hasPort reports whether a type has an out port, or an in port, of a name.
func hasPort(t api.Type, name string, out bool) bool {
	i := Port(t, name)
	return i >= 0 && t.Ports[i].Out == out
}

// hasAttrs reports whether all of these are attributes of a type.
func hasAttrs(t api.Type, names []string) bool {
	return !slices.ContainsFunc(names, func(s string) bool { return Place(t.Attrs, s) < 0 })
}

// hasStates reports whether all of these are states of a type.
func hasStates(t api.Type, names ...string) bool {
	return !slices.ContainsFunc(names, func(s string) bool {
		_, found := stateOf(t, s)
		return !found
	})
}

// carried returns the attributes that a channel from a type carries.
func carried(from api.Type, c api.Channel) []api.Attr {
	var out []api.Attr
	for _, name := range c.Carry {
		if i := Place(from.Attrs, name); i >= 0 {
			out = append(out, twinAttr(from.Attrs[i]))
		}
	}
	return out
}
