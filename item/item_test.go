package item

import (
	"math"
	"reflect"
	"slices"
	"strings"
	"testing"

	"switchyard/api"
	"switchyard/check"
	"switchyard/defn"
)

// example is that of layer 11's chapter, without its rights.
const example = `enum color { red, blue }
artifact order {
	attr id int; attr c color; key id; state new start; state done final; in paid 0..1; out ask 1..2;
	move go: new -> done on paid after 3 when id > 0 set c = 'red send ask;
}
channel a: order.ask -> order.paid by id + 1 for 1..1 spawn carry id, c;
milestone m: order new -> done by c for 2..3 when id != 4;
role r { sees order(id, c) in new where id > 1; }
`

// full has attributes of each kind, a Key in another order than they are, and
// several channels to one port.
const full = `enum color { red, blue }
enum size { big, small, blue }
artifact a {
	attr n int; attr l color; attr k int; attr b bool; attr t text; attr s list; attr o size;
	key k, l;
	state end final; state one start; state two;
	in i 0..2; in j 1..3; out p 0..1; out q 2..1000;
	move go: one -> two send p;
	move on: two -> one on i when msg.w == t set t = msg.w;
	move fin: two -> end on j send q;
}
artifact z {
	attr t text; attr w text; attr f bool;
	key t;
	state s start; state e final;
	in h 0..1; out g 0..1;
}
channel c1: z.g -> a.i by 1, 'red for 1..1 carry w;
channel c2: a.p -> a.j by k, l for 0..3 carry s, o, n;
channel c3: a.q -> a.j by n, 'blue for 1..1 spawn carry s, o, n;
channel c4: a.p -> z.h by t for 1..1;
`

func want[T comparable](t *testing.T, what string, got, wanted T) {
	t.Helper()
	if got != wanted {
		t.Errorf("%s: got %#v, want %#v", what, got, wanted)
	}
}

// same checks that two things are equal. A nil slice is an empty one.
func same(t *testing.T, what string, got, wanted any) {
	t.Helper()
	if !equal(reflect.ValueOf(got), reflect.ValueOf(wanted)) {
		t.Errorf("%s:\n got %+v\nwant %+v", what, got, wanted)
	}
}

func equal(a, b reflect.Value) bool {
	if a.Type() != b.Type() {
		return false
	}
	switch a.Kind() {
	case reflect.Struct:
		for i := range a.NumField() {
			if !equal(a.Field(i), b.Field(i)) {
				return false
			}
		}
		return true
	case reflect.Slice:
		if a.Len() != b.Len() {
			return false
		}
		for i := range a.Len() {
			if !equal(a.Index(i), b.Index(i)) {
				return false
			}
		}
		return true
	}
	return a.Equal(b)
}

// read is the choreography of a source, which has to be valid.
func read(t *testing.T, s string) api.Def {
	t.Helper()
	d, at, bad := defn.Parse(s)
	if bad != api.OK || check.Check(d) != api.OK {
		t.Fatalf("%s: %v at %d, %v", s, bad, at, check.Check(d))
	}
	return d
}

// notValid are choreographies like full, each with one fault.
func notValid(t *testing.T) map[string]api.Def {
	out := map[string]api.Def{}
	for what, spoil := range map[string]func(d *api.Def){
		"a name that is none":   func(d *api.Def) { d.Enums[0].Name = "1" },
		"too many types":        func(d *api.Def) { d.Types = append(d.Types, slices.Repeat(d.Types[1:], 15)...) },
		"two types of one name": func(d *api.Def) { d.Types = append(d.Types, d.Types[0]) },
		"no Key":                func(d *api.Def) { d.Types[1].Key = nil },
		"a Key of no attribute": func(d *api.Def) { d.Types[0].Key[1] = "none" },
		"an enum of no name":    func(d *api.Def) { d.Types[0].Attrs[6].Enum = "none" },
		"an enum without Syms":  func(d *api.Def) { d.Enums[1].Syms = nil },
		"no start":              func(d *api.Def) { d.Types[0].States[1].Start = false },
		"two starts":            func(d *api.Def) { d.Types[1].States[1].Start = true },
		"a port without uses":   func(d *api.Def) { d.Types[1].Ports[0].Max = 0 },
		"a move from nowhere":   func(d *api.Def) { d.Types[0].Moves[0].From = "none" },
		"a condition of an int": func(d *api.Def) { d.Types[0].Moves[0].When = api.Expr{Op: api.OpInt, Num: 1} },
		"a channel to nowhere":  func(d *api.Def) { d.Channels[3].To = "none" },
		"a milestone of none":   func(d *api.Def) { d.Groups = []api.Group{{Name: "m"}} },
		"a role that sees none": func(d *api.Def) { d.Roles = []api.Role{{Name: "r", Sees: []api.Sight{{Type: "none"}}}} },
	} {
		d := read(t, full)
		spoil(&d)
		want(t, "valid with "+what, check.Check(d) == api.OK, false)
		out[what] = d
	}
	return out
}

func num(n int64) api.Value          { return api.Value{Kind: api.Int, Num: n} }
func flag(n int64) api.Value         { return api.Value{Kind: api.Bool, Num: n} }
func text(s string) api.Value        { return api.Value{Kind: api.Text, Text: s} }
func sym(s string) api.Value         { return api.Value{Kind: api.Sym, Text: s} }
func list(l ...int64) api.Value      { return api.Value{Kind: api.List, List: l} }
func row(l ...api.Value) []api.Value { return l }

func TestExample(t *testing.T) {
	d := read(t, example)
	x, bad := New(d, "order", 7, 0, num(1), sym("red"))
	want(t, "New", bad, api.OK)
	same(t, "New", x, api.Item{ID: 7, Type: "order", State: "new", Attrs: row(num(1), sym("red")), Counts: []int{0, 0}})
	same(t, "Key", Key(d, x), row(num(1)))
	want(t, "Live", Live(d, x), true)
	y, bad := Spawn(d, "order", 7, 0, num(1))
	want(t, "Spawn", bad, api.OK)
	same(t, "Spawn", y, x)
}

// TestZero: P14.1.
func TestZero(t *testing.T) {
	d := api.Def{Enums: []api.Enum{
		{Name: "void"}, {Name: "one", Syms: []string{"b", "a"}}, {Name: "void", Syms: []string{"c"}}, {Name: "one", Syms: []string{"d"}},
		{Name: "", Syms: []string{"e", "b"}}, {Name: "odd", Syms: []string{"1", "x"}},
	}}
	none := api.Value{}
	for _, c := range []struct {
		a      api.Attr
		wanted api.Value
	}{
		{api.Attr{Kind: api.Int}, num(0)}, {api.Attr{Kind: api.Bool}, flag(0)}, {api.Attr{Kind: api.Text}, text("")}, {api.Attr{Kind: api.List}, list()},
		{api.Attr{Name: "a", Kind: api.Int, Enum: "one"}, num(0)}, {api.Attr{Name: "len", Kind: api.Text, Enum: "none"}, text("")},
		{api.Attr{Kind: api.Sym, Enum: "one"}, sym("b")}, {api.Attr{Name: "1", Kind: api.Sym, Enum: "one"}, sym("b")},
		{api.Attr{Kind: api.Sym, Enum: "void"}, none}, {api.Attr{Kind: api.Sym, Enum: "none"}, none}, {api.Attr{Kind: api.Sym, Enum: "b"}, none},
		{api.Attr{Kind: api.Sym, Enum: "One"}, none}, {api.Attr{Kind: api.Sym}, sym("e")}, {api.Attr{Kind: api.Sym, Enum: "odd"}, sym("1")},
		{api.Attr{Kind: api.None}, none}, {api.Attr{Kind: 6}, none}, {api.Attr{Kind: -1}, none}, {api.Attr{Kind: 6, Enum: "one"}, none},
		{api.Attr{Kind: math.MaxInt, Enum: "one"}, none}, {api.Attr{Kind: math.MinInt, Enum: "one"}, none},
	} {
		same(t, "Zero", Zero(d, c.a), c.wanted)
		if c.a.Kind != api.Sym {
			same(t, "Zero of nothing", Zero(api.Def{}, c.a), c.wanted)
		} else {
			same(t, "Zero of nothing", Zero(api.Def{}, c.a), none)
		}
	}
	for what, d := range notValid(t) {
		same(t, "Zero with "+what, Zero(d, api.Attr{Kind: api.List}), list())
		same(t, "Zero with "+what, Zero(d, api.Attr{Kind: api.Sym, Enum: d.Enums[0].Name}), sym("red"))
	}
}

// kinds are attributes of each kind, and of none; values of one kind that are
// valid, and values that are not.
var kinds = []api.Attr{{Kind: api.None}, {Kind: api.Int}, {Kind: api.Bool}, {Kind: api.Text}, {Kind: api.Sym, Enum: "one"}, {Kind: api.List}, {Kind: 6}, {Kind: -1}}

func validOf(kind int) []api.Value {
	long := make([]int64, 16)
	return [][]api.Value{
		{{}},
		{num(0), num(1), num(-1), num(math.MaxInt64), num(math.MinInt64)},
		{flag(0), flag(1)},
		{text(""), text("a"), text("\x00\xff\""), text(strings.Repeat("a", 64))},
		{sym("a"), sym("b"), sym("b_1"), sym(strings.Repeat("x", 24))},
		{list(), list(0), list(1, -1, math.MinInt64), list(long...)},
	}[kind]
}

func notRight() []api.Value {
	return []api.Value{
		{Num: 1}, {Text: "a"}, {List: []int64{1}},
		{Kind: api.Int, Text: "a"}, {Kind: api.Int, Num: 1, List: []int64{1}},
		flag(2), flag(-1), {Kind: api.Bool, Num: 1, Text: "a"}, {Kind: api.Bool, List: []int64{0}},
		text(strings.Repeat("a", 65)), {Kind: api.Text, Num: 1}, {Kind: api.Text, Text: "a", List: []int64{0}},
		sym(""), sym("1"), sym("a b"), sym(strings.Repeat("x", 25)), {Kind: api.Sym, Text: "a", Num: 1}, {Kind: api.Sym, Text: "a", List: []int64{0}},
		list(make([]int64, 17)...), {Kind: api.List, Num: 1}, {Kind: api.List, Text: "a"},
		{Kind: 6}, {Kind: -1}, {Kind: 6, Text: "a"}, {Kind: math.MaxInt}, {Kind: math.MinInt},
	}
}

// TestFits: P14.1, values of each kind for attributes of each kind.
func TestFits(t *testing.T) {
	long := strings.Repeat("x", 24)
	d := api.Def{Enums: []api.Enum{
		{Name: "void"}, {Name: "one", Syms: []string{"b", "a", "b_1", long, "", "1", "a b", long + "x"}},
		{Name: "void", Syms: []string{"a"}}, {Name: "one", Syms: []string{"c"}}, {Name: "", Syms: []string{"a"}},
	}}
	for _, a := range kinds {
		for kind := range 6 {
			for _, v := range validOf(kind) {
				want(t, "Fits", Fits(d, a, v), a.Kind == kind && kind != api.None)
			}
		}
		for _, v := range notRight() {
			want(t, "Fits of a value that is not valid", Fits(d, a, v), false)
		}
	}
	for _, c := range []struct {
		enum, sym string
		wanted    bool
	}{
		{"one", "a", true}, {"one", "b", true}, {"one", "c", false}, {"one", "A", false}, {"one", "ab", false}, {"one", "x", false},
		{"void", "a", false}, {"none", "a", false}, {"a", "a", false}, {"", "a", true}, {"", "b", false},
	} {
		a := api.Attr{Name: "x", Kind: api.Sym, Enum: c.enum}
		want(t, c.sym+" of "+c.enum, Fits(d, a, sym(c.sym)), c.wanted)
		want(t, c.sym+" of nothing", Fits(api.Def{}, a, sym(c.sym)), false)
		want(t, c.sym+" as a text", Fits(d, a, text(c.sym)), false)
	}
	want(t, "an int with an enum", Fits(d, api.Attr{Kind: api.Int, Enum: "void"}, num(1)), true)
	want(t, "an int of nothing", Fits(api.Def{}, api.Attr{Kind: api.Int}, num(1)), true)
}

// TestZeroFits: P14.1, an attribute may have its Zero, unless that is None.
func TestZeroFits(t *testing.T) {
	for _, s := range []string{example, full} {
		d := read(t, s)
		for _, one := range d.Types {
			for _, a := range one.Attrs {
				want(t, "Zero of "+a.Name, Fits(d, a, Zero(d, a)), true)
			}
		}
	}
	for _, a := range []api.Attr{{Kind: api.Sym, Enum: "none"}, {}, {Kind: 6}} {
		want(t, "None", Fits(api.Def{}, a, Zero(api.Def{}, a)), false)
	}
}
