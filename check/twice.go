package check

import (
	"slices"

	"switchyard/api"
)

// twice reports whether two of the elements are known by the same.
func twice[T any, K comparable](by func(T) K, l ...T) bool {
	known := map[K]struct{}{}
	for _, x := range l {
		k := by(x)
		if _, met := known[k]; met {
			return true
		}
		known[k] = struct{}{}
	}
	return false
}

// itself is what those elements are known by that have no name.
func itself[T any](x T) T { return x }

// doubled reports whether two parts of a choreography that need names of their
// own have the same.
func doubled(d api.Def) bool {
	return twice(func(e api.Enum) string { return e.Name }, d.Enums...) ||
		slices.ContainsFunc(d.Enums, func(e api.Enum) bool { return twice(itself, e.Syms...) }) ||
		twice(func(t api.Type) string { return t.Name }, d.Types...) ||
		slices.ContainsFunc(d.Types, doubledInType) ||
		twice(func(c api.Channel) string { return c.Name }, d.Channels...) ||
		slices.ContainsFunc(d.Channels, func(c api.Channel) bool { return twice(itself, c.Carry...) }) ||
		twice(func(g api.Group) string { return g.Name }, d.Groups...) ||
		twice(func(r api.Role) string { return r.Name }, d.Roles...) ||
		slices.ContainsFunc(d.Roles, doubledInRole)
}

func doubledInType(t api.Type) bool {
	return twice(func(a api.Attr) string { return a.Name }, t.Attrs...) ||
		twice(itself, t.Key...) ||
		twice(func(s api.State) string { return s.Name }, t.States...) ||
		twice(func(p api.Port) string { return p.Name }, t.Ports...) ||
		twice(func(m api.Move) string { return m.Name }, t.Moves...) ||
		slices.ContainsFunc(t.Moves, doubledInMove)
}

func doubledInMove(m api.Move) bool {
	return twice(func(s api.Set) string { return s.Attr }, m.Sets...) || twice(itself, m.Sends...)
}

func doubledInRole(r api.Role) bool {
	return twice(func(s api.Sight) string { return s.Type }, r.Sees...) ||
		slices.ContainsFunc(r.Sees, func(s api.Sight) bool { return twice(itself, s.Attrs...) || twice(itself, s.States...) }) ||
		twice(itself, r.May...)
}
