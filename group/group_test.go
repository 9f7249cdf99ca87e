package group

import (
	"math"
	"reflect"
	"slices"
	"strings"
	"testing"

	"switchyard/api"
	"switchyard/check"
	"switchyard/defn"
	"switchyard/item"
)

// example is that of layer 11, without its rights.
const example = `enum color { red, blue }
artifact order {
	attr id int;
	attr c color;
	key id;
	state new start;
	state done final;
	in paid 0..1;
	out ask 1..2;
	move go: new -> done on paid after 3 when id > 0 set c = 'red send ask;
}
channel a: order.ask -> order.paid by id + 1 for 1..1 spawn carry id, c;
milestone m: order new -> done by c for 2..3 when id != 4;
`

// full has milestones by attributes of each Kind, to states of each sort, of a
// type a, and of b, which is like it.
const full = `enum color { red, blue }
enum size { big, red }
artifact a {
	attr k int; attr n int; attr f bool; attr t text; attr c color; attr e size; attr l list; key k;
	state end final; state new start; state mid; state fin final;
	in i 0..9; in j 1..3; out o 0..9; out p 2..3;
	move go: new -> mid send o;
}
artifact b {
	attr k int; attr n int; key k; state new start; state mid; state end final; in i 0..9; out o 0..9;
}
channel toA: b.o -> a.i by k for 1..1 carry n;
channel toB: a.o -> b.i by k for 1..1;
milestone byK: a new -> mid by k for 1..1;
milestone byN: a new -> mid by n for 1..3;
milestone byF: a new -> mid by f for 1..3;
milestone byT: a new -> mid by t for 1..3;
milestone byC: a new -> mid by c for 1..3;
milestone byE: a new -> mid by e for 1..3;
milestone byL: a new -> mid by l for 1..3;
milestone stay: a new -> new by n for 2..4;
milestone two: a mid -> new by n for 2..2;
milestone big: a new -> mid by n for 1..1000;
milestone open: a new -> mid by n for 2..3 when 12 / k > 1;
milestone close: a new -> end by n for 2..3 when 12 / k > 1;
milestone shut: a mid -> fin by n for 1..2;
milestone atB: b new -> mid by n for 1..3;
`

func want[T comparable](t *testing.T, what string, got, wanted T) {
	t.Helper()
	if got != wanted {
		t.Errorf("%s: got %#v, want %#v", what, got, wanted)
	}
}

// same checks that two things are equal. A nil slice is an empty one.
func same(t *testing.T, what string, got, wanted any) {
	t.Helper()
	if !equal(reflect.ValueOf(got), reflect.ValueOf(wanted)) {
		t.Errorf("%s:\n got %+v\nwant %+v", what, got, wanted)
	}
}

func equal(a, b reflect.Value) bool {
	if a.Type() != b.Type() {
		return false
	}
	switch a.Kind() {
	case reflect.Struct:
		for i := range a.NumField() {
			if !equal(a.Field(i), b.Field(i)) {
				return false
			}
		}
		return true
	case reflect.Slice:
		if a.Len() != b.Len() {
			return false
		}
		for i := range a.Len() {
			if !equal(a.Index(i), b.Index(i)) {
				return false
			}
		}
		return true
	}
	return a.Interface() == b.Interface()
}

// read is the choreography of a source, which has to be valid.
func read(t *testing.T, s string) api.Def {
	t.Helper()
	d, at, bad := defn.Parse(s)
	if bad != api.OK || check.Check(d) != api.OK {
		t.Fatalf("%s: %v at %d, %v", s, bad, at, check.Check(d))
	}
	return d
}

func num(n int64) api.Value          { return api.Value{Kind: api.Int, Num: n} }
func flag(n int64) api.Value         { return api.Value{Kind: api.Bool, Num: n} }
func text(s string) api.Value        { return api.Value{Kind: api.Text, Text: s} }
func sym(s string) api.Value         { return api.Value{Kind: api.Sym, Text: s} }
func list(l ...int64) api.Value      { return api.Value{Kind: api.List, List: l} }
func row(l ...api.Value) []api.Value { return l }

// made is an artifact of the type a in the state new with the key 1, and 5 as
// its n, that may become final; changed.
func made(id int64, change ...func(x *api.Item)) api.Item {
	x := api.Item{
		ID: id, Type: "a", State: "new", Since: 3, Attrs: row(num(1), num(5), flag(1), text("t"), sym("blue"), sym("big"), list(1, 2)), Counts: []int{0, 1, 4, 2},
		Box: []api.Mail{{ID: id, Channel: "toA", Key: row(num(1)), Fields: row(num(2))}},
	}
	for _, f := range change {
		f(&x)
	}
	return x
}

// ofB is an artifact of the type b in the state new, with 5 as its n.
func ofB(id int64, change ...func(x *api.Item)) api.Item {
	x := api.Item{ID: id, Type: "b", State: "new", Since: 3, Attrs: row(num(1), num(5)), Counts: []int{0, 0}}
	for _, f := range change {
		f(&x)
	}
	return x
}

// in puts an artifact in a state.
func in(state string) func(x *api.Item) {
	return func(x *api.Item) {
		if x.State = state; state == "end" || state == "fin" {
			x.Box = nil
		}
	}
}

// with gives an artifact another value of an attribute.
func with(i int, v api.Value) func(x *api.Item) {
	return func(x *api.Item) { x.Attrs[i] = v }
}

// counting gives an artifact other counters.
func counting(l ...int) func(x *api.Item) {
	return func(x *api.Item) { x.Counts = l }
}

// some are artifacts like made, of these IDs.
func some(ids ...int64) []api.Item {
	var out []api.Item
	for _, id := range ids {
		out = append(out, made(id))
	}
	return out
}

// moved are artifacts as a milestone leaves them.
func moved(items []api.Item, to string, now int64) []api.Item {
	var out []api.Item
	for _, x := range items {
		x = item.Twin(x)
		x.State, x.Since = to, now
		out = append(out, x)
	}
	return out
}

// has checks that Members answers these IDs.
func has(t *testing.T, what string, d api.Def, items []api.Item, name string, v api.Value, wanted ...int64) {
	t.Helper()
	ids, bad := Members(d, items, name, v)
	want(t, what+" (Members)", bad, api.OK)
	same(t, what+" (Members)", ids, wanted)
}

// gathers checks that Gather answers these artifacts.
func gathers(t *testing.T, what string, d api.Def, items []api.Item, name string, v api.Value, now int64, wanted ...api.Item) {
	t.Helper()
	l, bad := Gather(d, items, name, v, now)
	want(t, what+" (Gather)", bad, api.OK)
	same(t, what+" (Gather)", l, wanted)
}

// stays checks that Gather answers an error, and nothing beside it.
func stays(t *testing.T, what string, wanted api.Errno, d api.Def, items []api.Item, name string, v api.Value, now int64) {
	t.Helper()
	l, bad := Gather(d, items, name, v, now)
	want(t, what+" (Gather)", bad, wanted)
	same(t, what+" (Gather)", l, []api.Item(nil))
}

// fails checks that Members and Gather answer an error, and nothing beside it.
func fails(t *testing.T, what string, wanted api.Errno, d api.Def, items []api.Item, name string, v api.Value, now int64) {
	t.Helper()
	ids, bad := Members(d, items, name, v)
	want(t, what+" (Members)", bad, wanted)
	same(t, what+" (Members)", ids, []int64(nil))
	stays(t, what, wanted, d, items, name, v, now)
}

// TestExample: those of the chapter, and what comes of the last one where the
// counter is enough.
func TestExample(t *testing.T) {
	d := read(t, example)
	order := func(id, k int64, ask int) api.Item {
		x, bad := item.New(d, "order", id, 0, num(k), sym("red"))
		want(t, "New", bad, api.OK)
		x.Counts[1] = ask
		return x
	}
	stays(t, "one order", api.ErrCount, d, []api.Item{order(1, 1, 1)}, "m", sym("red"), 9)
	stays(t, "the first one has the id 4", api.ErrState, d, []api.Item{order(1, 4, 0), order(2, 2, 0)}, "m", sym("red"), 9)
	l := []api.Item{order(1, 1, 0), order(2, 2, 0)}
	has(t, "two orders", d, l, "m", sym("red"), 1, 2)
	has(t, "two orders", d, l, "m", sym("blue"))
	stays(t, "their counters are less than Min", api.ErrCount, d, l, "m", sym("red"), 9)
	l = []api.Item{order(2, 2, 1), order(1, 1, 2)}
	gathers(t, "their counters are enough", d, l, "m", sym("red"), 9, moved([]api.Item{l[1], l[0]}, "done", 9)...)
}

// TestMembers: P21.1, by attributes of each Kind, those with the value alone.
func TestMembers(t *testing.T) {
	d := read(t, full)
	for _, c := range []struct {
		name  string
		place int
		vals  []api.Value
	}{
		{"byK", 0, row(num(0), num(1), num(-1), num(math.MinInt64), num(math.MaxInt64))},
		{"byN", 1, row(num(0), num(5), num(-5), num(1<<32+5), num(math.MinInt64), num(math.MaxInt64))},
		{"byF", 2, row(flag(0), flag(1))},
		{"byT", 3, row(text(""), text("t"), text("T"), text("tt"), text("t\x00"), text("\xff"), text(strings.Repeat("t", api.MaxText)))},
		{"byC", 4, row(sym("red"), sym("blue"))},
		{"byE", 5, row(sym("big"), sym("red"))},
		{"byL", 6, row(list(), list(0), list(1, 2), list(2, 1), list(12), list(1, 2, 0), list(make([]int64, api.MaxList)...))},
	} {
		var items []api.Item
		for i, v := range c.vals {
			items = append(items, made(int64(i), with(c.place, v)), made(int64(-10-i), with(c.place, v), in("mid")), made(int64(100+i), with(c.place, v), in("end")))
		}
		for i, v := range c.vals {
			has(t, c.name, d, items, c.name, v, int64(-10-i), int64(i))
			has(t, c.name+" of some", d, items[:3*i], c.name, v)
			has(t, c.name+" of some", d, items[3*i:3*i+1], c.name, v, int64(i))
			has(t, c.name+" of none", d, nil, c.name, v)
			has(t, c.name+" of none", d, []api.Item{}, c.name, v)
		}
	}
	all := []api.Item{made(1), made(2, in("mid")), made(3, in("new")), made(4, with(0, num(77)))}
	for _, name := range []string{"byN", "stay", "two", "big", "open", "close", "shut"} {
		has(t, name+", in any state, as many as there are", d, all, name, num(5), 1, 2, 3, 4)
		has(t, name+" with a value that none has", d, all, name, num(6))
	}
}

// TestNotMembers: P21.1, artifacts that are no members; P21.3, they are not
// answered.
func TestNotMembers(t *testing.T) {
	d := read(t, full)
	for what, x := range map[string]api.Item{
		"final":              made(1, in("end")),
		"final, elsewhere":   made(1, in("fin")),
		"of another type":    ofB(1),
		"in another's state": ofB(1, in("mid")),
		"with another value": made(1, with(1, num(6))),
		"with its key":       made(1, with(1, num(0)), with(0, num(5))),
		"final and another":  made(1, in("end"), with(1, num(6))),
	} {
		has(t, what, d, []api.Item{x}, "byN", num(5))
		stays(t, what, api.ErrCount, d, []api.Item{x}, "byN", num(5), 9)
		for _, y := range some(0, 2) {
			has(t, what+", and one that is", d, []api.Item{x, y}, "byN", num(5), y.ID)
			gathers(t, what+", and one that is", d, []api.Item{y, x}, "byN", num(5), 9, moved([]api.Item{y}, "mid", 9)...)
		}
	}
	items := []api.Item{made(1), ofB(2), made(3), ofB(4)}
	has(t, "those of b", d, items, "atB", num(5), 2, 4)
	gathers(t, "those of b", d, items, "atB", num(5), 9, moved([]api.Item{items[1], items[3]}, "mid", 9)...)
}

// TestAnyOrder: P21.1 and P21.2, the IDs are in order, whatever that of the
// artifacts.
func TestAnyOrder(t *testing.T) {
	d := read(t, full)
	ids := []int64{math.MinInt64, -1, 0, 1, math.MaxInt64}
	all := append(some(ids...), made(-7, in("end")), made(7, with(1, num(6))), ofB(8))
	wanted := moved(all[:len(ids)], "mid", 9)
	for turn := range all {
		for step := 1; step < len(all); step += 2 {
			var items []api.Item
			for i := range all {
				items = append(items, all[(turn+i*step)%len(all)])
			}
			has(t, "turned", d, items, "big", num(5), ids...)
			gathers(t, "turned", d, items, "big", num(5), 9, wanted...)
			slices.Reverse(items)
			has(t, "reversed", d, items, "big", num(5), ids...)
			gathers(t, "reversed", d, items, "big", num(5), 9, wanted...)
		}
	}
}

// TestGather: P21.2, what comes of the members: the state, the time, and
// nothing else.
func TestGather(t *testing.T) {
	d := read(t, full)
	for _, now := range []int64{0, 1, 2, 3, 77, api.MaxTime - 1, api.MaxTime} {
		l := []api.Item{made(1), made(2, with(0, num(2)), counting(9, 3, 0, 3), func(x *api.Item) { x.Box, x.Since = nil, api.MaxTime }), made(3, with(0, num(-5)), with(3, text("")))}
		l[0].Box = append(l[0].Box, l[0].Box...)
		gathers(t, "byN", d, l, "byN", num(5), now, moved(l, "mid", now)...)
		gathers(t, "big", d, l[:1], "big", num(5), now, moved(l[:1], "mid", now)...)
		gathers(t, "to where they are", d, l, "stay", num(5), now, moved(l, "new", now)...)
		gathers(t, "to the end, with their messages", d, l[:2], "close", num(5), now, moved(l[:2], "end", now)...)
		l = moved(l, "mid", 1)
		gathers(t, "shut", d, l[1:], "shut", num(5), now, moved(l[1:], "fin", now)...)
		gathers(t, "two", d, l[:2], "two", num(5), now, moved(l[:2], "new", now)...)
	}
}
