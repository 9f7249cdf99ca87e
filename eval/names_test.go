package eval

import (
	"slices"
	"strings"
	"testing"
	"unsafe"

	"switchyard/api"
	"switchyard/value"
)

// names are attributes with these names.
func names(l ...string) []api.Attr {
	var out []api.Attr
	for _, s := range l {
		out = append(out, api.Attr{Name: s})
	}
	return out
}

// both checks the value of an attribute, and of a field in the place of it.
func both(t *testing.T, name string, l []api.Attr, vals []api.Value, wanted api.Value) {
	t.Helper()
	for what, c := range map[string]struct {
		e api.Expr
		v Env
	}{
		"attribute": {attr(name), Env{Attrs: l, Vals: vals}},
		"field":     {field(name), Env{Names: l, Fields: vals}},
	} {
		if wanted.Kind == api.None {
			fails(t, what+" "+name, c.e, c.v, api.ErrNone)
		} else {
			comes(t, what+" "+name, c.e, c.v, wanted)
		}
	}
	fails(t, "field as an attribute", attr(name), Env{Names: l, Fields: vals}, api.ErrNone)
	fails(t, "attribute as a field", field(name), Env{Attrs: l, Vals: vals}, api.ErrNone)
	fails(t, "values of the other", attr(name), Env{Attrs: l, Fields: vals}, api.ErrNone)
	fails(t, "values of the other", field(name), Env{Names: l, Vals: vals}, api.ErrNone)
}

func TestNames(t *testing.T) {
	none := api.Value{}
	for _, s := range samples() {
		both(t, "x", names("x"), []api.Value{s}, s)
		both(t, "x", names("a", "x", "b"), []api.Value{num(55), s, num(77)}, s)
	}
	one, two := num(1), num(2)
	both(t, "x", nil, nil, none)
	both(t, "x", nil, []api.Value{one}, none)
	both(t, "x", names("x"), nil, none)
	both(t, "x", names("y"), []api.Value{one}, none)
	both(t, "x", names("X", "xx", "x_", ""), []api.Value{one, one, one, one}, none)
	both(t, "x", names("x"), []api.Value{none}, none)
	both(t, "x", names("x", "x"), []api.Value{one, two}, one)
	both(t, "x", names("x", "x"), []api.Value{none, two}, none) // the first one counts
	both(t, "x", names("a", "x", "x"), []api.Value{one}, none)
	both(t, "x", names("a", "x", "x"), []api.Value{one, two}, two)
	both(t, "x", names("x"), []api.Value{one, two, two}, one) // values without a name
	both(t, "y", names("x"), []api.Value{one, two, two}, none)
	both(t, "x", []api.Attr{{Name: "x", Kind: api.Text, Enum: "e"}}, []api.Value{one}, one) // a name is all that counts
	both(t, strings.Repeat("x", 24), names(strings.Repeat("x", 23), strings.Repeat("x", 24)), []api.Value{one, two}, two)
	// More names than values within one slice's memory.
	vals := []api.Value{one, two}
	both(t, "y", names("x", "y"), vals[:1], none)

	v := Env{Attrs: names("x", "a"), Vals: []api.Value{one, num(10)}, Names: names("b", "x", "len"), Fields: []api.Value{num(20), two, num(3)}}
	comes(t, "an attribute and a field", read(t, "msg.x - x * 5 + msg.len"), v, num(0))
	fails(t, "no such field", read(t, "x + msg.a"), v, api.ErrNone)
	fails(t, "no such attribute", read(t, "msg.x + b"), v, api.ErrNone)
	fails(t, "an attribute that a field is named like", tree(api.OpAdd, attr("b"), attr("x")), v, api.ErrNone)
}

// TestUnchanged: what was handed in stays as it was, with its spare capacity.
func TestUnchanged(t *testing.T) {
	long := []int64{1, 2, 3, 4, 5, 6, 7, 8}
	l := long[:2:6]
	vals := []api.Value{{Kind: api.List, List: l}, num(9), text("abc"), num(77)}
	v := Env{Attrs: append(make([]api.Attr, 0, 10), names("l", "n", "s")...), Vals: vals[:3]}
	v.Names, v.Fields = v.Attrs[:3:3], v.Vals
	for s, wanted := range map[string]api.Value{
		"push(l, n)":                            list(1, 2, 9),
		"push(push(l, n), -n)":                  list(1, 2, 9, -9),
		"push(msg.l, 5) == push(l, 6)":          no(),
		"push(push(l, 3), 4) == push(l, 3)":     no(),
		"push(l, len(push(l, 1)))":              list(1, 2, 3),
		"len(push(push(l, 0), 0)) + at(l, 1)":   num(6),
		"l":                                     list(1, 2),
		"s":                                     text("abc"),
		"[at(l, 0), at(l, 1), n]":               list(1, 2, 9),
		"push([at(l, 0)], 3)":                   list(1, 3),
		"msg.l == l && push(l, 1) != push(l,2)": yes(),
	} {
		e := read(t, s)
		comes(t, s, e, v, wanted)
		want(t, "the tree "+s, printed(e), printed(read(t, s)))
		want(t, "the list, behind "+s, slices.Equal(long, []int64{1, 2, 3, 4, 5, 6, 7, 8}), true)
		want(t, "the values, behind "+s, value.Key(vals...), `[1, 2],9,"abc",77`)
		want(t, "the names, behind "+s, slices.Equal(v.Attrs[:cap(v.Attrs)], append(names("l", "n", "s"), make([]api.Attr, 7)...)), true)
	}
}

// TestOwn: what is returned is nobody else's.
func TestOwn(t *testing.T) {
	l, s := []int64{1, 2, 3, 4}, strings.Clone("some text")
	v := Env{Attrs: names("l", "s", "c"), Vals: []api.Value{{Kind: api.List, List: l[:3]}, text(s), sym(s[:4])}, Names: names("l", "s"), Fields: []api.Value{{Kind: api.List, List: l[:3]}, text(s)}}
	for _, e := range []api.Expr{attr("l"), field("l"), read(t, "push(l, 5)"), read(t, "[1, 2, 3]"), read(t, "push([], 1)")} {
		first, _ := Of(e, v)
		wanted := value.Print(first)
		second, _ := Of(e, v)
		clear(first.List[:cap(first.List)])
		want(t, "the other result of "+printed(e), value.Print(second), wanted)
		want(t, "the list that was handed in", slices.Equal(l, []int64{1, 2, 3, 4}), true)
		clear(second.List[:cap(second.List)])
		comes(t, printed(e)+" again", e, v, mustBe(t, wanted))
	}
	for _, e := range []api.Expr{attr("s"), field("s"), attr("c"), {Op: api.OpText, Text: s}, {Op: api.OpSym, Text: s[:4]}} {
		first, bad := Of(e, v)
		second, _ := Of(e, v)
		want(t, "error of "+printed(e), bad, api.OK)
		want(t, "own text of "+printed(e), unsafe.StringData(first.Text) == unsafe.StringData(s), false)
		want(t, "own text of two results", unsafe.StringData(first.Text) == unsafe.StringData(second.Text), false)
	}
}

// mustBe returns the list that a text tells.
func mustBe(t *testing.T, s string) api.Value {
	t.Helper()
	out, bad := Of(read(t, s), Env{})
	want(t, "error of "+s, bad, api.OK)
	return out
}
