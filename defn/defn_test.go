package defn

import (
	"reflect"
	"strconv"
	"strings"
	"testing"

	"switchyard/api"
	"switchyard/expr"
)

// example is that of the chapter.
const example = `enum color { red, blue }
artifact order {
	attr id int;
	attr c color;
	key id;
	state new start;
	state done final;
	in paid 0..1;
	out ask 1..2;
	move go: new -> done on paid after 3 when id > 0 set c = 'red send ask;
}
channel a: order.ask -> order.paid by id + 1 for 1..1 spawn carry id, c;
milestone m: order new -> done by c for 2..3 when id != 4;
role r {
	sees order(id, c) in new where id > 1;
	may order.go;
	may order;
}
`

func num(n int64) api.Expr   { return api.Expr{Op: api.OpInt, Num: n} }
func attr(s string) api.Expr { return api.Expr{Op: api.OpAttr, Text: s} }
func sym(s string) api.Expr  { return api.Expr{Op: api.OpSym, Text: s} }

func node(op int, args ...api.Expr) api.Expr { return api.Expr{Op: op, Args: args} }

// exampleDef is what the example declares.
func exampleDef() api.Def {
	return api.Def{
		Enums: []api.Enum{{Name: "color", Syms: []string{"red", "blue"}}},
		Types: []api.Type{{
			Name:   "order",
			Attrs:  []api.Attr{{Name: "id", Kind: api.Int}, {Name: "c", Kind: api.Sym, Enum: "color"}},
			Key:    []string{"id"},
			States: []api.State{{Name: "new", Start: true}, {Name: "done", Final: true}},
			Ports:  []api.Port{{Name: "paid", Max: 1}, {Name: "ask", Out: true, Min: 1, Max: 2}},
			Moves: []api.Move{{
				Name: "go", From: "new", To: "done", On: "paid", After: 3,
				When:  node(api.OpLt, num(0), attr("id")),
				Sets:  []api.Set{{Attr: "c", To: sym("red")}},
				Sends: []string{"ask"},
			}},
		}},
		Channels: []api.Channel{{
			Name: "a", From: "order", FromPort: "ask", To: "order", ToPort: "paid",
			By:  []api.Expr{node(api.OpAdd, attr("id"), num(1))},
			Low: 1, High: 1, Spawn: true, Carry: []string{"id", "c"},
		}},
		Groups: []api.Group{{
			Name: "m", Type: "order", State: "new", To: "done", By: "c", Low: 2, High: 3,
			When: node(api.OpNe, attr("id"), num(4)),
		}},
		Roles: []api.Role{{
			Name: "r",
			Sees: []api.Sight{{
				Type: "order", Attrs: []string{"id", "c"}, States: []string{"new"},
				Where: node(api.OpLt, num(1), attr("id")),
			}},
			May: []api.Right{{Type: "order", Move: "go"}, {Type: "order"}},
		}},
	}
}

// printed is the text that a source has, which is printed as it stands but for
// its operator >.
func printed(s string) string {
	return strings.NewReplacer("id > 0", "0 < id", "id > 1", "1 < id").Replace(s)
}

func want[T comparable](t *testing.T, what string, got, wanted T) {
	t.Helper()
	if got != wanted {
		t.Errorf("%s: got %#v, want %#v", what, got, wanted)
	}
}

// same reports whether two choreographies are equal. A nil slice is an empty
// one.
func same(a, b api.Def) bool {
	return equal(reflect.ValueOf(a), reflect.ValueOf(b))
}

func equal(a, b reflect.Value) bool {
	switch a.Kind() {
	case reflect.Struct:
		for i := range a.NumField() {
			if !equal(a.Field(i), b.Field(i)) {
				return false
			}
		}
		return true
	case reflect.Slice:
		if a.Len() != b.Len() {
			return false
		}
		for i := range a.Len() {
			if !equal(a.Index(i), b.Index(i)) {
				return false
			}
		}
		return true
	}
	return a.Equal(b)
}

// parses checks that a source declares this.
func parses(t *testing.T, s string, wanted api.Def) {
	t.Helper()
	got, at, bad := Parse(s)
	want(t, "error of "+strconv.Quote(s), bad, api.OK)
	want(t, "offset of "+strconv.Quote(s), at, 0)
	if !same(got, wanted) {
		t.Errorf("%s:\n got %+v\nwant %+v", s, got, wanted)
	}
}

// fails checks that a source has this error. A ^ in it, which is taken out,
// stands before the token at which it is.
func fails(t *testing.T, s string, bad api.Errno) {
	t.Helper()
	before, behind, marked := strings.Cut(s, "^")
	if !marked {
		t.Fatalf("%s: no ^", s)
	}
	trimmed := strings.TrimLeft(behind, "\t\n\r ")
	wrong(t, before+behind, len(before)+len(behind)-len(trimmed), bad)
}

// wrong checks that a source has this error at this offset.
func wrong(t *testing.T, s string, at int, bad api.Errno) {
	t.Helper()
	d, gotAt, gotBad := Parse(s)
	quoted := strconv.Quote(s)
	want(t, "error of "+quoted, gotBad, bad)
	want(t, "offset of "+quoted, gotAt, at)
	want(t, "no choreography of "+quoted, same(d, api.Def{}), true)
}

// prints checks that a choreography has this text.
func prints(t *testing.T, d api.Def, wanted string) {
	t.Helper()
	got, bad := Print(d)
	want(t, "error of "+wanted, bad, api.OK)
	want(t, "text", got, wanted)
}

// refuses checks that a choreography has no text, but this error.
func refuses(t *testing.T, what string, d api.Def, bad api.Errno) {
	t.Helper()
	got, gotBad := Print(d)
	want(t, "error of "+what, gotBad, bad)
	want(t, "text of "+what, got, "")
}

// both checks that a choreography has this text, which declares it.
func both(t *testing.T, d api.Def, text string) {
	t.Helper()
	prints(t, d, text)
	parses(t, text, d)
}

// tree is the expression of a source.
func tree(t *testing.T, s string) api.Expr {
	t.Helper()
	e, _, bad := expr.Read(s)
	want(t, "error of "+s, bad, api.OK)
	return e
}

// dice are numbers that look thrown, and are the same in each run.
type dice uint64

func (d *dice) below(n int) int {
	*d = *d*6364136223846793005 + 1442695040888963407
	return int(uint64(*d) >> 33 % uint64(n))
}

func TestExample(t *testing.T) {
	parses(t, example, exampleDef())
	both(t, exampleDef(), printed(example))
	spaced := strings.NewReplacer(" ", " \r\n// -> ;\n\t", "\t", "").Replace(example)
	parses(t, spaced, exampleDef())
	parses(t, strings.NewReplacer("\n", "", "\t", "", ", ", ",", ": ", ":", " -> ", "->", " { ", "{", " = ", "=").Replace(example), exampleDef())
}

func TestEmpty(t *testing.T) {
	both(t, api.Def{}, "")
	for _, s := range []string{" ", "\n\t\r ", "// enum", "// enum e {\n// }\n"} {
		parses(t, s, api.Def{})
	}
	prints(t, api.Def{Enums: []api.Enum{}, Types: []api.Type{}, Channels: []api.Channel{}, Groups: []api.Group{}, Roles: []api.Role{}}, "")
	both(t, api.Def{Types: []api.Type{{Name: "a"}}}, "artifact a {\n}\n")
	both(t, api.Def{Roles: []api.Role{{Name: "r"}}}, "role r {\n}\n")
	prints(t, api.Def{Types: []api.Type{{Name: "a", Attrs: []api.Attr{}, Key: []string{}, States: []api.State{}, Ports: []api.Port{}, Moves: []api.Move{}}}}, "artifact a {\n}\n")
}

// declared is a declaration and its text.
type declared struct {
	text string
	add  func(d *api.Def)
}

// declarations are two of each kind.
func declarations() []declared {
	d := exampleDef()
	return []declared{
		{"enum color { red, blue }\n", func(d *api.Def) { d.Enums = append(d.Enums, exampleDef().Enums...) }},
		{"enum one { red }\n", func(d *api.Def) { d.Enums = append(d.Enums, api.Enum{Name: "one", Syms: []string{"red"}}) }},
		{"artifact x {\n\tkey a;\n}\n", func(d *api.Def) { d.Types = append(d.Types, api.Type{Name: "x", Key: []string{"a"}}) }},
		{"artifact y {\n\tstate a;\n\tstate b;\n\tin c 0..0;\n}\n", func(d *api.Def) {
			d.Types = append(d.Types, api.Type{Name: "y", States: []api.State{{Name: "a"}, {Name: "b"}}, Ports: []api.Port{{Name: "c"}}})
		}},
		{"channel a: order.ask -> order.paid by id + 1 for 1..1 spawn carry id, c;\n", func(to *api.Def) { to.Channels = append(to.Channels, d.Channels...) }},
		{"channel b: c.d -> e.f by 1, 'a for 0..2;\n", func(d *api.Def) {
			d.Channels = append(d.Channels, api.Channel{Name: "b", From: "c", FromPort: "d", To: "e", ToPort: "f", By: []api.Expr{num(1), sym("a")}, High: 2})
		}},
		{"milestone m: order new -> done by c for 2..3 when id != 4;\n", func(to *api.Def) { to.Groups = append(to.Groups, d.Groups...) }},
		{"milestone n: a b -> c by d for 0..0;\n", func(d *api.Def) {
			d.Groups = append(d.Groups, api.Group{Name: "n", Type: "a", State: "b", To: "c", By: "d"})
		}},
		{"role r {\n\tsees order(id, c) in new where id > 1;\n\tmay order.go;\n\tmay order;\n}\n", func(to *api.Def) { to.Roles = append(to.Roles, d.Roles...) }},
		{"role s {\n}\n", func(d *api.Def) { d.Roles = append(d.Roles, api.Role{Name: "s"}) }},
	}
}

func TestDeclarations(t *testing.T) {
	all := declarations()
	for _, one := range all {
		var d api.Def
		one.add(&d)
		both(t, d, printed(one.text))
		parses(t, one.text, d)
	}
	r := new(dice(11))
	for range 300 { // in any order, some of them twice, some not at all
		source := ""
		var d api.Def
		for range r.below(12) {
			one := all[r.below(len(all))]
			source += one.text
			one.add(&d)
		}
		parses(t, source, d)
		text, bad := Print(d)
		want(t, "error", bad, api.OK)
		parses(t, text, d)
	}
}

// TestTextOrder: the text has the kinds of declarations in its own order, and
// so for the parts of a type and of a role.
func TestTextOrder(t *testing.T) {
	source := `role r { may a.b; sees c; may d; sees e(); }
		milestone m: a b -> c by d for 1..2;
		channel c: d.e -> f.g by h for 3..4;
		artifact a { move m: b -> c; out o 1..2; state s; key k; attr x int; in i 3..4; state u final; key l, n; attr y e; move n: c -> b; out p 0..1; }
		enum e { f }
		role q { }
		artifact b { }
		enum g { h, i }`
	text := `enum e { f }
enum g { h, i }
artifact a {
	attr x int;
	attr y e;
	key k, l, n;
	state s;
	state u final;
	out o 1..2;
	in i 3..4;
	out p 0..1;
	move m: b -> c;
	move n: c -> b;
}
artifact b {
}
channel c: d.e -> f.g by h for 3..4;
milestone m: a b -> c by d for 1..2;
role r {
	sees c;
	sees e;
	may a.b;
	may d;
}
role q {
}
`
	d, _, bad := Parse(source)
	want(t, "error", bad, api.OK)
	both(t, d, text)
}
