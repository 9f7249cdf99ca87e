package view

import (
	"reflect"
	"slices"
	"testing"

	"switchyard/api"
	"switchyard/check"
	"switchyard/defn"
	"switchyard/item"
)

// example is that of layer 11, without its rights.
const example = `enum color { red, blue }
artifact order {
	attr id int;
	attr c color;
	key id;
	state new start;
	state done final;
	in paid 0..1;
	out ask 1..2;
	move go: new -> done on paid after 3 when id > 0 set c = 'red send ask;
}
channel a: order.ask -> order.paid by id + 1 for 1..1 spawn carry id, c;
milestone m: order new -> done by c for 2..3 when id != 4;
role r { sees order(id, c) in new where id > 1; }
`

// full has a type a with attributes of each Kind, and b and c, which are like
// it.
const full = `enum color { red, blue }
artifact a {
	attr k int; attr n int; attr f bool; attr t text; attr c color; attr l list; key k;
	state new start; state mid; state end final; in i 0..9; out o 0..9;
	move go: new -> mid send o; move back: mid -> new; move take: new -> new on i;
}
artifact b {
	attr k int; attr n int; key k; state new start; state end final; in i 0..9; out o 0..9; move go: new -> end; move on: new -> new;
}
artifact c { attr k int; key k; state new start; }
`

// roles are some of full.
const roles = `role nobody { }
role all { sees a(k, n, f, t, c, l); sees b(k, n); sees c(k); may a; may a.go; may a.back; may b; may b.go; may b.on; may c; }
role turned { sees a(l, c, t, f, n, k); sees b(n, k); }
role some { sees c; sees a(t, k) in end, new; sees b(n) where k > 0; may a.go; may b; }
role bare { sees a; may a.back; }
role first { sees a(k, n) in new, mid; may b.on; }
role last { sees a(n, k) in mid, end; may c; }
role only { sees a(c) in mid where f; sees b(k) in end; may a; }
`

func want[T comparable](t *testing.T, what string, got, wanted T) {
	t.Helper()
	if got != wanted {
		t.Errorf("%s: got %#v, want %#v", what, got, wanted)
	}
}

// same checks that two things are equal. A nil slice is an empty one.
func same(t *testing.T, what string, got, wanted any) {
	t.Helper()
	if !equal(reflect.ValueOf(got), reflect.ValueOf(wanted)) {
		t.Errorf("%s:\n got %+v\nwant %+v", what, got, wanted)
	}
}

func equal(a, b reflect.Value) bool {
	if a.Type() != b.Type() {
		return false
	}
	switch a.Kind() {
	case reflect.Struct:
		for i := range a.NumField() {
			if !equal(a.Field(i), b.Field(i)) {
				return false
			}
		}
		return true
	case reflect.Slice:
		if a.Len() != b.Len() {
			return false
		}
		for i := range a.Len() {
			if !equal(a.Index(i), b.Index(i)) {
				return false
			}
		}
		return true
	}
	return a.Interface() == b.Interface()
}

// read is the choreography of a source, which has to be valid.
func read(t *testing.T, s string) api.Def {
	t.Helper()
	d, at, bad := defn.Parse(s)
	if bad != api.OK || check.Check(d) != api.OK {
		t.Fatalf("%s: %v at %d, %v", s, bad, at, check.Check(d))
	}
	return d
}

func num(n int64) api.Value          { return api.Value{Kind: api.Int, Num: n} }
func flag(n int64) api.Value         { return api.Value{Kind: api.Bool, Num: n} }
func text(s string) api.Value        { return api.Value{Kind: api.Text, Text: s} }
func sym(s string) api.Value         { return api.Value{Kind: api.Sym, Text: s} }
func list(l ...int64) api.Value      { return api.Value{Kind: api.List, List: l} }
func row(l ...api.Value) []api.Value { return l }

// made is an artifact of the type a in the state new, changed.
func made(id int64, change ...func(x *api.Item)) api.Item {
	x := api.Item{ID: id, Type: "a", State: "new", Since: 3, Attrs: row(num(1), num(5), flag(1), text("t"), sym("blue"), list(1, 2)), Counts: []int{1, 2}}
	for _, f := range change {
		f(&x)
	}
	return x
}

// ofB is an artifact of the type b in the state new, changed.
func ofB(id int64, change ...func(x *api.Item)) api.Item {
	x := api.Item{ID: id, Type: "b", State: "new", Since: 3, Attrs: row(num(1), num(6)), Counts: []int{1, 2}}
	for _, f := range change {
		f(&x)
	}
	return x
}

// in puts an artifact in a state.
func in(state string) func(x *api.Item) {
	return func(x *api.Item) { x.State = state }
}

// of makes an artifact one of another type.
func of(typ string) func(x *api.Item) {
	return func(x *api.Item) { x.Type = typ }
}

// with gives an artifact another value of an attribute.
func with(i int, v api.Value) func(x *api.Item) {
	return func(x *api.Item) { x.Attrs[i] = v }
}

// having gives an artifact other values.
func having(l ...api.Value) func(x *api.Item) {
	return func(x *api.Item) { x.Attrs = l }
}

// view is one of an artifact with these values.
func view(x api.Item, attrs ...api.Value) api.View {
	return api.View{Item: x.ID, Type: x.Type, State: x.State, Attrs: attrs}
}

// event is one that left an artifact as it is.
func event(n int64, name string, x api.Item) api.Event {
	return api.Event{N: n, Tick: 77, Name: name, Item: x.ID, Type: x.Type, State: x.State, Attrs: x.Attrs}
}

// sees checks that a role sees these values of an artifact, of an event that
// left it as it is, and in the answer to a query.
func sees(t *testing.T, what string, d api.Def, role string, x api.Item, attrs ...api.Value) {
	t.Helper()
	wanted := view(x, attrs...)
	v, seen := See(d, role, x)
	want(t, what+" (See)", seen, true)
	same(t, what+" (See)", v, wanted)
	s, seen := Happened(d, role, event(x.ID+40, "go", x))
	want(t, what+" (Happened)", seen, true)
	same(t, what+" (Happened)", s, api.Seen{N: x.ID + 40, Name: "go", View: wanted})
	l, bad := Query(d, role, x.Type, []api.Item{x})
	want(t, what+" (Query)", bad, api.OK)
	same(t, what+" (Query)", l, []api.View{wanted})
}

// hides checks that a role sees nothing of an artifact, and that a query of its
// type answers an error or nothing.
func hides(t *testing.T, what string, wanted api.Errno, d api.Def, role string, x api.Item) {
	t.Helper()
	v, seen := See(d, role, x)
	want(t, what+" (See)", seen, false)
	same(t, what+" (See)", v, api.View{})
	s, seen := Happened(d, role, event(x.ID+40, "go", x))
	want(t, what+" (Happened)", seen, false)
	same(t, what+" (Happened)", s, api.Seen{})
	l, bad := Query(d, role, x.Type, []api.Item{x})
	want(t, what+" (Query)", bad, wanted)
	same(t, what+" (Query)", l, []api.View(nil))
}

// TestExample: the chapter's own.
func TestExample(t *testing.T) {
	d := read(t, example)
	for id := int64(-1); id < 5; id++ {
		for _, c := range []string{"red", "blue"} {
			x, bad := item.New(d, "order", 10+id, 0, num(id), sym(c))
			want(t, "New", bad, api.OK)
			if id > 1 {
				sees(t, "an order that is new", d, "r", x, num(id), sym(c))
			} else {
				hides(t, "an order with a little id", api.OK, d, "r", x)
			}
			x.State = "done"
			hides(t, "an order that is done", api.OK, d, "r", x)
		}
	}
	for _, move := range []string{"", "go"} {
		want(t, "May", May(d, "r", "order", move), false)
	}
}

// TestDoc: the seventh of the document's ten examples.
func TestDoc(t *testing.T) {
	d := read(t, `artifact order { attr id int; key id; state new start; state sent; state done final; in paid 0..1; out ask 0..1;
		move go: new -> sent send ask; move end: sent -> done on paid; }
	artifact ship { attr id int; key id; state idle start; in req 0..1; out told 0..1; move do: idle -> idle on req send told; }
	channel ask: order.ask -> ship.req by id for 1..1 spawn;
	channel told: ship.told -> order.paid by id for 1..1;
	role boss { sees order(id); may order; may order.go; }`)
	items := []api.Item{
		{ID: 3, Type: "order", State: "done", Attrs: row(num(9)), Counts: []int{1, 1}}, {ID: 2, Type: "ship", State: "idle", Attrs: row(num(7)), Counts: []int{0, 0}}, {ID: 1, Type: "order", State: "new", Attrs: row(num(7)), Counts: []int{0, 0}},
	}
	l, bad := Query(d, "boss", "order", items)
	want(t, "orders", bad, api.OK)
	same(t, "orders", l, []api.View{view(items[2], num(7)), view(items[0], num(9))})
	l, bad = Query(d, "boss", "ship", items)
	want(t, "ships", bad, api.OK)
	same(t, "ships", l, []api.View(nil))
	for _, r := range []api.Right{{Type: "order"}, {Type: "order", Move: "go"}, {Type: "order", Move: "end"}, {Type: "ship"}, {Type: "ship", Move: "do"}, {Type: "ship", Move: "go"}} {
		want(t, "may "+r.Type+" "+r.Move, May(d, "boss", r.Type, r.Move), slices.Contains([]string{"", "go"}, r.Move) && r.Type == "order")
	}
}
