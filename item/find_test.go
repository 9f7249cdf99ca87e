package item

import (
	"testing"

	"switchyard/api"
)

// odd has types as no valid choreography has them: two of one name, one of no
// name, a Key of names that no attribute has, or two have.
func odd() api.Def {
	attrs := []api.Attr{{Name: "p"}, {Name: "q"}, {Name: "p"}, {Name: ""}, {Name: "r"}}
	return api.Def{Types: []api.Type{
		{Name: "b", Attrs: attrs, Key: []string{"r", "none", "p", "q", "p", ""}, States: []api.State{{Name: "s", Final: true}, {Name: "t"}, {Name: "s"}, {Name: "t", Final: true}, {Name: ""}}},
		{Name: "b", Attrs: attrs, Key: []string{"q"}, States: []api.State{{Name: "u"}}},
		{Name: "c", Attrs: attrs},
		{Name: "", Key: []string{"p"}, Attrs: attrs[:1], States: []api.State{{Name: "v"}, {Name: "w", Start: true, Final: true}}},
		{Name: "d", Key: []string{"p", "q"}},
	}}
}

// TestKey: P14.3, for any choreography and any artifact.
func TestKey(t *testing.T) {
	d := read(t, full)
	same(t, "a", Key(d, live()), row(num(9), sym("blue")))
	same(t, "final", Key(d, done()), row(num(9), sym("blue")))
	z, _ := New(d, "z", 1, 0, valsOfZ()...)
	same(t, "z", Key(d, z), row(text("key")))
	vals := row(num(0), num(1), num(2), num(3), num(4), num(5))
	for _, c := range []struct {
		typ    string
		n      int
		wanted []api.Value
	}{
		{"b", 0, nil}, {"b", 1, row(num(0), num(0))}, {"b", 2, row(num(0), num(1), num(0))}, {"b", 3, row(num(0), num(1), num(0))},
		{"b", 4, row(num(0), num(1), num(0), num(3))}, {"b", 5, row(num(4), num(0), num(1), num(0), num(3))}, {"b", 6, row(num(4), num(0), num(1), num(0), num(3))},
		{"c", 6, nil}, {"d", 6, nil}, {"", 6, row(num(0))}, {"", 0, nil}, {"none", 6, nil}, {"B", 6, nil},
	} {
		same(t, "Key of "+c.typ, Key(odd(), api.Item{Type: c.typ, Attrs: vals[:c.n]}), c.wanted)
		same(t, "Key of nothing", Key(api.Def{}, api.Item{Type: c.typ, Attrs: vals[:c.n]}), row())
	}
	same(t, "values that are not valid", Key(odd(), api.Item{Type: "", Attrs: row(api.Value{Kind: 9, Num: 1, Text: "a", List: []int64{2}})}), row(api.Value{Kind: 9, Num: 1, Text: "a", List: []int64{2}}))
	for what, d := range notValid(t) {
		if len(d.Types[0].Key) == 2 && d.Types[0].Key[1] == "l" {
			same(t, what, Key(d, live()), row(num(9), sym("blue")))
		}
	}
}

// TestLive: P14.3, for any choreography and any artifact.
func TestLive(t *testing.T) {
	d := read(t, full)
	for state, wanted := range map[string]bool{"one": true, "two": true, "end": false, "": false, "s": false, "none": false, "One": false} {
		x := live()
		x.State = state
		want(t, "Live in "+state, Live(d, x), wanted)
		want(t, "Live of nothing", Live(api.Def{}, x), false)
		want(t, "Live of nothing else", Live(d, api.Item{Type: "a", State: state}), wanted)
	}
	for _, c := range []struct {
		typ, state string
		wanted     bool
	}{
		{"b", "s", false}, {"b", "t", true}, {"b", "", true}, {"b", "u", false}, {"c", "s", false}, {"c", "", false},
		{"", "v", true}, {"", "w", false}, {"", "", false}, {"none", "s", false}, {"none", "", false}, {"s", "b", false},
	} {
		want(t, "Live of "+c.typ+" in "+c.state, Live(odd(), api.Item{Type: c.typ, State: c.state}), c.wanted)
	}
}

// TestTwin: P14.3, a copy is equal, whatever it is a copy of.
func TestTwin(t *testing.T) {
	for _, x := range []api.Item{{}, live(), done(), {ID: -1, Type: "\x00", State: "x", Since: -9, Attrs: notRight(), Counts: []int{-1, 5}, Box: []api.Mail{{}, {Key: notRight(), Fields: notRight()}}}} {
		same(t, "Twin", Twin(x), x)
		same(t, "Twin of a Twin", Twin(Twin(x)), x)
	}
}
