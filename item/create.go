package item

import (
	"slices"

	"switchyard/api"
	"switchyard/check"
	"switchyard/value"
)

// create completes an artifact that has its ID, Type and Since. The values are
// those of the attributes at these places of its type.
func create(d api.Def, x api.Item, vals []api.Value, places func(api.Type) []int) (api.Item, api.Errno) {
	if check.Check(d) != api.OK {
		return api.Item{}, api.ErrNoDef
	}
	t, found := check.Type(d, x.Type)
	given := places(t)
	switch {
	case !found:
		return api.Item{}, api.ErrName
	case !timely(x.Since) || len(vals) != len(given):
		return api.Item{}, api.ErrArg
	case !allFit(d, attrsAt(t, given), vals):
		return api.Item{}, api.ErrKind
	}
	x.Type, x.State, x.Counts = t.Name, startOf(t), make([]int, len(t.Ports))
	for _, a := range t.Attrs {
		x.Attrs = append(x.Attrs, Zero(d, a))
	}
	for i, v := range value.Twin(vals...) {
		x.Attrs[given[i]] = v
	}
	return x, api.OK
}

// startOf returns the Start state of a type of a valid choreography.
func startOf(t api.Type) string {
	i := slices.IndexFunc(t.States, func(s api.State) bool { return s.Start })
	return t.States[i].Name
}

// allPlaces returns the indices of all attributes of a type.
func allPlaces(t api.Type) []int {
	var out []int
	for i := range t.Attrs {
		out = append(out, i)
	}
	return out
}

// keyPlaces returns the indices of the attributes of a type's Key. Names that
// no attribute has are left out.
func keyPlaces(t api.Type) []int {
	var out []int
	for _, name := range t.Key {
		if i := check.Place(t.Attrs, name); i >= 0 {
			out = append(out, i)
		}
	}
	return out
}

// attrsAt returns the attributes at these places of a type.
func attrsAt(t api.Type, places []int) []api.Attr {
	var out []api.Attr
	for _, i := range places {
		out = append(out, t.Attrs[i])
	}
	return out
}
