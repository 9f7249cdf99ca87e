package item

import (
	"slices"

	"switchyard/api"
	"switchyard/check"
)

// symbols returns the symbols of the first enum of a name.
func symbols(d api.Def, name string) []string {
	if i := slices.IndexFunc(d.Enums, func(e api.Enum) bool { return e.Name == name }); i >= 0 {
		return d.Enums[i].Syms
	}
	return nil
}

// timely reports whether a number is a time.
func timely(n int64) bool {
	return n >= 0 && n <= api.MaxTime
}

// allFit reports whether there is a value for each attribute, which may have
// it.
func allFit(d api.Def, attrs []api.Attr, vals []api.Value) bool {
	if len(vals) != len(attrs) {
		return false
	}
	for i, v := range vals {
		if !Fits(d, attrs[i], v) {
			return false
		}
	}
	return true
}

// countsFit reports whether there is a counter for each port, which may have
// it in a state that is final or is not.
func countsFit(ports []api.Port, counts []int, final bool) bool {
	if len(counts) != len(ports) {
		return false
	}
	for i, n := range counts {
		if n < 0 || n > ports[i].Max || final && n < ports[i].Min {
			return false
		}
	}
	return true
}

// boxFits reports whether an artifact of a type may have these messages in a
// state that is final or is not.
func boxFits(d api.Def, t api.Type, box []api.Mail, final bool) bool {
	if final {
		return len(box) == 0
	}
	return !slices.ContainsFunc(box, func(m api.Mail) bool { return !mailFits(d, t, m) })
}

// mailFits reports whether a message leads to a type, and has a key and fields
// for it.
func mailFits(d api.Def, t api.Type, m api.Mail) bool {
	c, found := check.Channel(d, m.Channel)
	return found && c.To == t.Name &&
		allFit(d, attrsAt(t, keyPlaces(t)), m.Key) &&
		allFit(d, check.Fields(d, c.To, c.ToPort), m.Fields)
}
