package check

import (
	"reflect"
	"strconv"
	"testing"

	"switchyard/api"
	"switchyard/defn"
	"switchyard/expr"
)

// example is that of layer 11's chapter.
const example = `enum color { red, blue }
artifact order {
	attr id int;
	attr c color;
	key id;
	state new start;
	state done final;
	in paid 0..1;
	out ask 1..2;
	move go: new -> done on paid after 3 when id > 0 set c = 'red send ask;
}
channel a: order.ask -> order.paid by id + 1 for 1..1 spawn carry id, c;
milestone m: order new -> done by c for 2..3 when id != 4;
role r {
	sees order(id, c) in new where id > 1;
	may order.go;
	may order;
}
`

func want[T comparable](t *testing.T, what string, got, wanted T) {
	t.Helper()
	if got != wanted {
		t.Errorf("%s: got %#v, want %#v", what, got, wanted)
	}
}

// same checks that two things are equal. A nil slice is an empty one.
func same(t *testing.T, what string, got, wanted any) {
	t.Helper()
	if !equal(reflect.ValueOf(got), reflect.ValueOf(wanted)) {
		t.Errorf("%s:\n got %+v\nwant %+v", what, got, wanted)
	}
}

func equal(a, b reflect.Value) bool {
	switch a.Kind() {
	case reflect.Struct:
		for i := range a.NumField() {
			if !equal(a.Field(i), b.Field(i)) {
				return false
			}
		}
		return true
	case reflect.Slice:
		if a.Len() != b.Len() {
			return false
		}
		for i := range a.Len() {
			if !equal(a.Index(i), b.Index(i)) {
				return false
			}
		}
		return true
	}
	return a.Equal(b)
}

// read is the choreography of a source, valid or not.
func read(t *testing.T, s string) api.Def {
	t.Helper()
	d, at, bad := defn.Parse(s)
	if bad != api.OK {
		t.Fatalf("%s: %v at %d", s, bad, at)
	}
	return d
}

// tree is the expression of a source.
func tree(t *testing.T, s string) api.Expr {
	t.Helper()
	e, _, bad := expr.Read(s)
	if bad != api.OK {
		t.Fatalf("%s: %v", s, bad)
	}
	return e
}

// checks checks what Check says of each of these sources.
func checks(t *testing.T, l map[string]api.Errno) {
	t.Helper()
	for s, wanted := range l {
		want(t, s, Check(read(t, s)), wanted)
	}
}

// dice are numbers that look thrown, and are the same in each run.
type dice uint64

func (d *dice) below(n int) int {
	*d = *d*6364136223846793005 + 1442695040888963407
	return int(uint64(*d) >> 33 % uint64(n))
}

func TestExample(t *testing.T) {
	d := read(t, example)
	want(t, "with the right on order.go", Check(d), api.ErrState)
	want(t, "acyclic with it", Acyclic(d), false)
	d.Roles[0].May = d.Roles[0].May[1:]
	want(t, "without it", Check(d), api.OK)
	want(t, "acyclic without it", Acyclic(d), false)
	want(t, "weight", Weight(d, "order", "paid"), 0)
	d.Channels = nil
	want(t, "without the channel", Check(d), api.OK)
	want(t, "acyclic without the channel", Acyclic(d), true)
	want(t, "weight without the channel", Weight(d, "order", "paid"), 1)
}

func TestEmpty(t *testing.T) {
	for _, d := range []api.Def{{}, {Enums: []api.Enum{}, Types: []api.Type{}, Channels: []api.Channel{}, Groups: []api.Group{}, Roles: []api.Role{}}} {
		want(t, "Check", Check(d), api.OK)
		want(t, "Acyclic", Acyclic(d), true)
		for _, s := range []string{"", "a"} {
			want(t, "Weight", Weight(d, s, s), 0)
			same(t, "Fields", Fields(d, s, s), []api.Attr{})
		}
	}
}

// twoOfEach has parts of the names a, b and "", where a and "" stand twice, and
// no part of the name c. The numbers tell them apart.
func twoOfEach() api.Def {
	attrs := []api.Attr{{Name: "b", Kind: 1}, {Name: "a", Kind: 2}, {Name: "", Kind: 3, Enum: "e"}, {Name: "a", Kind: 4}, {Name: "", Kind: 5}}
	types := func(l ...string) []api.Type {
		var out []api.Type
		for i, s := range l {
			out = append(out, api.Type{
				Name: s, Attrs: attrs[i:], Key: []string{"c", strconv.Itoa(i)},
				States: []api.State{{Name: "b", Start: true}, {Name: "a", Final: true}, {Name: "", Start: true, Final: true}, {Name: "a", Start: true}, {Name: ""}},
				Ports:  []api.Port{{Name: "b"}, {Name: "a", Min: i, Max: 7}, {Name: "", Out: true}, {Name: "a"}, {Name: ""}},
				Moves: []api.Move{
					{Name: "b", From: "x"},
					{Name: "a", From: "c", To: "d", On: "e", After: 9, When: api.Expr{Op: 77, Text: "w"}, Sets: []api.Set{{Attr: "s", To: api.Expr{Op: 1, Num: 4}}}, Sends: []string{"a", "a"}},
					{Name: "", To: "y"}, {Name: "a", To: "c"}, {Name: "", From: "z"},
				},
			})
		}
		return out
	}
	return api.Def{
		Types: types("b", "a", "", "a", ""),
		Channels: []api.Channel{
			{Name: "b"}, {Name: "a", From: "c", FromPort: "d", To: "e", ToPort: "f", By: []api.Expr{{Op: 3, Num: 1}}, Low: 4, High: 5, Spawn: true, Carry: []string{"g", "h"}},
			{Name: "", Low: 1}, {Name: "a", From: "z"}, {Name: "", Low: 2},
		},
		Groups: []api.Group{
			{Name: "b"}, {Name: "a", Type: "c", State: "d", To: "e", By: "f", Low: 1, High: 2, When: api.Expr{Op: 6, Text: "w"}},
			{Name: "", Low: 1}, {Name: "a", Low: 2}, {Name: "", Low: 3},
		},
		Roles: []api.Role{
			{Name: "b"},
			{Name: "a", Sees: []api.Sight{{Type: "c", Attrs: []string{"d"}, States: []string{"e"}, Where: api.Expr{Op: 2, Text: "w"}}}, May: []api.Right{{Type: "f", Move: "g"}}},
			{Name: "", May: []api.Right{{Type: "h"}}}, {Name: "a"}, {Name: "", May: []api.Right{{Type: "i"}}},
		},
	}
}

// finds checks a function that looks up elements, which are those of the names
// b, a, "", a and "".
func finds[T any](t *testing.T, what string, l []T, look func(string) (T, bool)) {
	t.Helper()
	for name, i := range map[string]int{"b": 0, "a": 1, "": 2} {
		got, found := look(name)
		want(t, what+" "+strconv.Quote(name), found, true)
		same(t, what+" "+strconv.Quote(name), got, l[i])
	}
	for _, name := range []string{"c", "A", "ab", "a ", " ", "\x00", "a\x00"} {
		got, found := look(name)
		want(t, what+" "+strconv.Quote(name), found, false)
		same(t, what+" "+strconv.Quote(name), got, *new(T))
	}
}

// TestFind: P12.1, the first element of a name.
func TestFind(t *testing.T) {
	d := twoOfEach()
	finds(t, "type", d.Types, func(s string) (api.Type, bool) { return Type(d, s) })
	finds(t, "channel", d.Channels, func(s string) (api.Channel, bool) { return Channel(d, s) })
	finds(t, "group", d.Groups, func(s string) (api.Group, bool) { return Group(d, s) })
	finds(t, "role", d.Roles, func(s string) (api.Role, bool) { return Role(d, s) })
	for _, one := range d.Types {
		finds(t, "state", one.States, func(s string) (api.State, bool) { return State(one, s) })
		finds(t, "move", one.Moves, func(s string) (api.Move, bool) { return Move(one, s) })
	}
	for _, s := range []string{"", "a"} {
		_, found := Type(api.Def{}, s)
		want(t, "a type of nothing", found, false)
		_, found = Channel(api.Def{}, s)
		want(t, "a channel of nothing", found, false)
		_, found = Group(api.Def{}, s)
		want(t, "a group of nothing", found, false)
		_, found = Role(api.Def{}, s)
		want(t, "a role of nothing", found, false)
		_, found = State(api.Type{}, s)
		want(t, "a state of nothing", found, false)
		_, found = Move(api.Type{}, s)
		want(t, "a move of nothing", found, false)
		want(t, "a place in nothing", Place(nil, s), -1)
		want(t, "a port of nothing", Port(api.Type{}, s), -1)
	}
	d = read(t, example)
	order, found := Type(d, "order")
	want(t, "order", found, true)
	same(t, "order", order, d.Types[0])
	_, found = Type(d, "color") // an enum
	want(t, "an enum as a type", found, false)
	_, found = Move(order, "paid") // a port
	want(t, "a port as a move", found, false)
	_, found = State(order, "go") // a move
	want(t, "a move as a state", found, false)
}

// TestPlaces: P12.1, the index of the first element of a name.
func TestPlaces(t *testing.T) {
	for name, wanted := range map[string]int{"b": 0, "a": 1, "": 2, "c": -1, "A": -1, "ab": -1, "a\x00": -1, "e": -1} {
		want(t, "place of "+strconv.Quote(name), Place(twoOfEach().Types[0].Attrs, name), wanted)
		want(t, "port "+strconv.Quote(name), Port(twoOfEach().Types[0], name), wanted)
		want(t, "place among none", Place([]api.Attr{}, name), -1)
	}
	order := read(t, example).Types[0]
	want(t, "in port", Port(order, "paid"), 0)
	want(t, "out port", Port(order, "ask"), 1)
	want(t, "an attribute as a port", Port(order, "id"), -1)
	want(t, "a port as an attribute", Place(order.Attrs, "paid"), -1)
	want(t, "the last attribute", Place(order.Attrs, "c"), 1)
}

// TestFields: P12.1, what comes at a port.
func TestFields(t *testing.T) {
	attrs := []api.Attr{{Name: "x", Kind: api.Int}, {Name: "y", Kind: api.Sym, Enum: "e"}, {Name: "x", Kind: api.Text}, {Name: "", Kind: 9}, {Name: "z", Kind: api.List}}
	d := api.Def{
		Types: []api.Type{{Name: "a", Attrs: attrs}, {Name: "b", Attrs: attrs[2:]}, {Name: "a", Attrs: attrs[4:]}, {Name: "", Attrs: attrs}},
		Channels: []api.Channel{
			{Name: "1", From: "a", To: "t", ToPort: "p", Carry: []string{"z", "x", "none", "y"}},
			{Name: "2", From: "b", To: "t", ToPort: "p", Carry: []string{"z"}},
			{Name: "3", From: "b", To: "t", ToPort: "q", Carry: []string{"x", "y", "x"}},
			{Name: "4", From: "none", To: "t", ToPort: "r", Carry: []string{"x"}},
			{Name: "5", From: "a", To: "t", ToPort: "r", Carry: []string{"x"}}, // not the first one
			{Name: "6", From: "a", To: "u", ToPort: "p", Carry: []string{"y", ""}},
			{Name: "7", From: "", To: "", ToPort: "", Carry: []string{"x"}},
			{Name: "8", From: "a", To: "v", ToPort: "p"},
			{Name: "9", From: "a", To: "p", ToPort: "v", Carry: []string{"none", "X"}},
		},
	}
	x, y, z := attrs[0], attrs[1], attrs[4]
	for _, c := range []struct {
		typ, port string
		wanted    []api.Attr
	}{
		{"t", "p", []api.Attr{z, x, y}},
		{"t", "q", []api.Attr{attrs[2], attrs[2]}},
		{"t", "r", nil},
		{"u", "p", []api.Attr{y, attrs[3]}},
		{"", "", []api.Attr{x}},
		{"v", "p", nil},
		{"p", "v", nil},
		{"t", "", nil}, {"", "p", nil}, {"p", "t", nil}, {"u", "q", nil}, {"T", "p", nil}, {"t", "P", nil},
		{"a", "p", nil}, // where it comes from
		{"none", "none", nil},
	} {
		same(t, "fields of "+c.typ+"."+c.port, Fields(d, c.typ, c.port), c.wanted)
	}
	d.Channels[0].Carry = nil // the second one doesn't count for it
	same(t, "fields of an empty Carry", Fields(d, "t", "p"), []api.Attr{})
	d.Channels = d.Channels[1:]
	same(t, "fields without the first channel", Fields(d, "t", "p"), []api.Attr{z})
	d.Channels = nil
	same(t, "fields without channels", Fields(d, "t", "p"), []api.Attr{})
	d = read(t, example)
	same(t, "fields of the example", Fields(d, "order", "paid"), d.Types[0].Attrs)
	same(t, "fields of an out port", Fields(d, "order", "ask"), []api.Attr{})
}
