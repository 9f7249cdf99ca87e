package check

import (
	"slices"

	"switchyard/api"
	"switchyard/typing"
)

// scope is what an expression may name.
type scope struct {
	enums         []api.Enum
	attrs, fields []api.Attr
}

// fit returns the error of an expression whose value an attribute is to get.
func (s scope) fit(e api.Expr, want api.Attr) api.Errno {
	got, bad := typing.Of(s.enums, s.attrs, s.fields, e)
	if bad == api.OK && !typing.Fits(s.enums, want, got) {
		return api.ErrKind
	}
	return bad
}

// condition returns the error of a condition, which may be missing.
func (s scope) condition(e api.Expr) api.Errno {
	if e.Op == api.OpNone {
		return api.OK
	}
	return s.fit(e, api.Attr{Kind: api.Bool})
}

// set returns the error of a Set of an artifact with this key.
func (s scope) set(key []string, one api.Set) api.Errno {
	i := Place(s.attrs, one.Attr)
	switch {
	case i < 0:
		return api.ErrNone
	case slices.Contains(key, one.Attr):
		return api.ErrState
	}
	return s.fit(one.To, s.attrs[i])
}
