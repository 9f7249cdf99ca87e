package view

import (
	"slices"
	"strings"

	"switchyard/api"
	"switchyard/check"
	"switchyard/eval"
	"switchyard/value"
)

// window is a type and the sight through which a role sees its artifacts.
type window struct {
	typ   api.Type
	sight api.Sight
}

// open returns the window of a role of a valid choreography to a type.
func open(d api.Def, r api.Role, typ string) (window, bool) {
	i := slices.IndexFunc(r.Sees, func(s api.Sight) bool { return s.Type == typ })
	if i < 0 {
		return window{}, false
	}
	t, found := check.Type(d, typ)
	return window{t, r.Sees[i]}, found
}

// show returns what is seen of an artifact of the window's type.
func (w window) show(x api.Item) (api.View, bool) {
	if !w.in(x.State) || len(x.Attrs) < len(w.typ.Attrs) || !w.holds(x.Attrs) {
		return api.View{}, false
	}
	out := api.View{Item: x.ID, Type: strings.Clone(x.Type), State: strings.Clone(x.State)}
	for _, name := range w.sight.Attrs {
		out.Attrs = append(out.Attrs, value.Twin(x.Attrs[check.Place(w.typ.Attrs, name)])...)
	}
	return out, true
}

// in reports whether artifacts in a state are seen.
func (w window) in(state string) bool {
	return len(w.sight.States) == 0 || slices.Contains(w.sight.States, state)
}

// holds reports whether the sight's Where is true of these values.
func (w window) holds(attrs []api.Value) bool {
	vals := slices.Clone(attrs)
	for i, v := range vals {
		if !value.Right(v) {
			vals[i] = api.Value{} // layer 10 is for valid values alone; to it this one is missing
		}
	}
	holds, bad := eval.Holds(w.sight.Where, eval.Env{Attrs: w.typ.Attrs, Vals: vals})
	return holds && bad == api.OK
}
