package index

import (
	"math"
	"reflect"
	"slices"
	"testing"

	"switchyard/api"
	"switchyard/check"
	"switchyard/defn"
	"switchyard/item"
)

// full has attributes of each kind, and a Key in another order than they are.
const full = `enum color { red, blue }
artifact a {
	attr n int; attr l color; attr k int; attr b bool; attr t text; attr s list;
	key k, l;
	state end final; state one start; state two;
	in i 0..2; out o 0..9;
	move go: one -> two send o;
}
artifact z { attr t list; attr k int; key t; state s start; state e final; in h 0..1; out g 0..1; }
artifact order { attr id int; key id; state new start; }
channel c: z.g -> a.i by k, 'red for 1..1 carry t;
channel e: a.o -> z.h by s for 1..1 carry n;
`

func want[T comparable](t *testing.T, what string, got, wanted T) {
	t.Helper()
	if got != wanted {
		t.Errorf("%s: got %#v, want %#v", what, got, wanted)
	}
}

// gives checks an answer of Find, With or All.
func gives(t *testing.T, what string, got []int64, wanted ...int64) {
	t.Helper()
	if !slices.Equal(got, wanted) {
		t.Errorf("%s: got %v, want %v", what, got, wanted)
	}
}

// read is the choreography of a source, which has to be valid.
func read(t *testing.T, s string) api.Def {
	t.Helper()
	d, at, bad := defn.Parse(s)
	if bad != api.OK || check.Check(d) != api.OK {
		t.Fatalf("%s: %v at %d, %v", s, bad, at, check.Check(d))
	}
	return d
}

func num(n int64) api.Value          { return api.Value{Kind: api.Int, Num: n} }
func flag(n int64) api.Value         { return api.Value{Kind: api.Bool, Num: n} }
func text(s string) api.Value        { return api.Value{Kind: api.Text, Text: s} }
func sym(s string) api.Value         { return api.Value{Kind: api.Sym, Text: s} }
func list(l ...int64) api.Value      { return api.Value{Kind: api.List, List: l} }
func row(l ...api.Value) []api.Value { return l }

// anA is an artifact of the type a with this key, which fits.
func anA(t *testing.T, d api.Def, id, k int64, l string) api.Item {
	t.Helper()
	x, bad := item.New(d, "a", id, 0, num(id), sym(l), num(k), flag(1), text("t"), list(k, id))
	want(t, "New", bad, api.OK)
	return x
}

// aZ is an artifact of the type z with this key, which fits.
func aZ(t *testing.T, d api.Def, id int64, key ...int64) api.Item {
	t.Helper()
	x, bad := item.Spawn(d, "z", id, 0, list(key...))
	want(t, "Spawn", bad, api.OK)
	return x
}

// holding is an index of some artifacts.
func holding(d api.Def, items ...api.Item) *Index {
	x := New(d)
	for _, a := range items {
		x.Put(a)
	}
	return x
}

func TestExample(t *testing.T) {
	d := read(t, full)
	x := New(d)
	for i, n := range []int64{1, 2, 1} {
		a, _ := item.Spawn(d, "order", int64(i+1), 0, num(n))
		x.Put(a)
	}
	gives(t, "two with the id 1", x.Find("order", num(1)), 1, 3)
	gives(t, "one with the id 2", x.Find("order", num(2)), 2)
	gives(t, "none with the id 3", x.Find("order", num(3)))
	gives(t, "an id of 1", x.With("order", "id", num(1)), 1, 3)
	gives(t, "all", x.All("order"), 1, 2, 3)
	gives(t, "all of another type", x.All("a"))
}

// TestEmpty: P16.1, an index without artifacts.
func TestEmpty(t *testing.T) {
	for what, d := range map[string]api.Def{"full": read(t, full), "nothing": {}} {
		for _, x := range []*Index{New(d), emptied(t, d)} {
			want(t, what+": an index", x != nil, true)
			gives(t, what+": Find", x.Find("order", num(0)))
			gives(t, what+": Find", x.Find("order"))
			gives(t, what+": With", x.With("order", "id", num(0)))
			gives(t, what+": All", x.All("order"))
			gives(t, what+": All of no name", x.All(""))
			x.Drop(0)
			gives(t, what+": All", x.All("order"))
		}
	}
}

// emptied is an index whose artifacts were all removed.
func emptied(t *testing.T, d api.Def) *Index {
	x := holding(d, api.Item{ID: 1, Type: "order", Attrs: row(num(0))}, api.Item{}, api.Item{ID: 2, Type: "order"})
	for _, id := range []int64{2, 1, 0} {
		x.Drop(id)
	}
	return x
}

// TestNil: P16.1, each method of no index.
func TestNil(t *testing.T) {
	var x *Index
	x.Put(api.Item{ID: 1, Type: "order", Attrs: row(num(0))})
	x.Drop(1)
	gives(t, "Find", x.Find("order", num(0)))
	gives(t, "Find without a key", x.Find(""))
	gives(t, "With", x.With("order", "id", num(0)))
	gives(t, "All", x.All("order"))
}

// TestPut: P16.1, an artifact in the place of another one of its ID.
func TestPut(t *testing.T) {
	d := read(t, full)
	x := holding(d, anA(t, d, 5, 1, "red"), anA(t, d, 6, 1, "red"))
	gives(t, "first", x.Find("a", num(1), sym("red")), 5, 6)

	x.Put(anA(t, d, 5, 2, "red"))
	gives(t, "another key: the old one", x.Find("a", num(1), sym("red")), 6)
	gives(t, "another key: the new one", x.Find("a", num(2), sym("red")), 5)
	gives(t, "another key: an old value", x.With("a", "s", list(1, 5)))
	gives(t, "another key: a new value", x.With("a", "s", list(2, 5)), 5)
	gives(t, "another key: all", x.All("a"), 5, 6)

	y := anA(t, d, 5, 2, "red")
	y.Attrs[4], y.State = text("new"), "end"
	x.Put(y)
	gives(t, "another value: the key", x.Find("a", num(2), sym("red")), 5)
	gives(t, "another value: the old one", x.With("a", "t", text("t")), 6)
	gives(t, "another value: the new one", x.With("a", "t", text("new")), 5)

	x.Put(aZ(t, d, 5, 1))
	gives(t, "another type: the old one", x.All("a"), 6)
	gives(t, "another type: the new one", x.All("z"), 5)
	gives(t, "another type: the old key", x.Find("a", num(2), sym("red")))
	gives(t, "another type: the new key", x.Find("z", list(1)), 5)
	gives(t, "another type: an old value", x.With("a", "t", text("new")))
	gives(t, "another type: a new value", x.With("z", "k", num(0)), 5)

	x.Put(aZ(t, d, 5, 1))
	gives(t, "the same again", x.All("z"), 5)
	x.Put(anA(t, d, 5, 1, "red"))
	gives(t, "as at first", x.Find("a", num(1), sym("red")), 5, 6)
	gives(t, "as at first", x.All("z"))
}

// TestDrop: P16.1, an artifact is removed, and may come again.
func TestDrop(t *testing.T) {
	d := read(t, full)
	x := holding(d, anA(t, d, 1, 7, "red"), anA(t, d, 2, 7, "red"), aZ(t, d, 3, 7))
	for _, id := range []int64{0, -1, 4, math.MaxInt64, math.MinInt64} {
		x.Drop(id)
		gives(t, "an ID that is not there", x.All("a"), 1, 2)
	}
	for range 2 {
		x.Drop(1)
		gives(t, "All", x.All("a"), 2)
		gives(t, "Find", x.Find("a", num(7), sym("red")), 2)
		gives(t, "With", x.With("a", "k", num(7)), 2)
		gives(t, "With its own value", x.With("a", "n", num(1)))
		gives(t, "another type", x.All("z"), 3)
	}
	x.Put(anA(t, d, 1, 8, "blue"))
	gives(t, "again: All", x.All("a"), 1, 2)
	gives(t, "again: the old key", x.Find("a", num(7), sym("red")), 2)
	gives(t, "again: the new key", x.Find("a", num(8), sym("blue")), 1)
	for _, id := range []int64{1, 2, 3} {
		x.Drop(id)
	}
	gives(t, "none", x.All("a"))
	gives(t, "none", x.All("z"))
	want(t, "what is left", len(x.items)+len(x.alike), 0)
}

// TestIDs: P16.1, any ID, put in any order, is answered in its place.
func TestIDs(t *testing.T) {
	d := read(t, full)
	ids := []int64{math.MinInt64, math.MinInt64 + 1, -2, -1, 0, 1, 2, 10, math.MaxInt64 - 1, math.MaxInt64}
	for turn := range ids {
		order := slices.Concat(ids[turn:], ids[:turn])
		if turn%2 == 0 {
			slices.Reverse(order)
		}
		x := New(d)
		for _, id := range order {
			x.Put(anA(t, d, id, 3, "blue"))
		}
		gives(t, "All", x.All("a"), ids...)
		gives(t, "Find", x.Find("a", num(3), sym("blue")), ids...)
		gives(t, "With", x.With("a", "l", sym("blue")), ids...)
		for _, id := range ids {
			gives(t, "With its own", x.With("a", "n", num(id)), id)
		}
		x.Drop(order[0])
		rest := slices.DeleteFunc(slices.Clone(ids), func(id int64) bool { return id == order[0] })
		gives(t, "without one", x.All("a"), rest...)
		gives(t, "without one", x.Find("a", num(3), sym("blue")), rest...)
	}
}

// TestAll: P16.1, All looks at the Type of the artifacts alone.
func TestAll(t *testing.T) {
	items := []api.Item{{ID: 4, Type: "none"}, {ID: 3, Type: ""}, {ID: 2, Type: "a", State: "none"}, {ID: 1, Type: "none", Attrs: row(num(1))}, {ID: 5, Type: "a "}, {ID: 6, Type: "A"}, {ID: 7, Type: "\xff"}}
	for what, d := range map[string]api.Def{"full": read(t, full), "nothing": {}, "odd": odd()} {
		x := holding(d, items...)
		gives(t, what+": none", x.All("none"), 1, 4)
		gives(t, what+": no name", x.All(""), 3)
		gives(t, what+": a", x.All("a"), 2)
		gives(t, what+": a blank", x.All("a "), 5)
		gives(t, what+": A", x.All("A"), 6)
		gives(t, what+": no letter", x.All("\xff"), 7)
		gives(t, what+": another", x.All("b"))
		x.Drop(1)
		gives(t, what+": none", x.All("none"), 4)
	}
}

// TestSameWhatever: P16.2, two indexes in which the last Put of each ID is the
// same are the same, whatever else was done, in whatever order.
func TestSameWhatever(t *testing.T) {
	d := read(t, full)
	x := holding(d, anA(t, d, 1, 7, "red"), aZ(t, d, 2, 7), anA(t, d, 3, 7, "blue"))
	y := holding(d, anA(t, d, 3, 1, "red"), anA(t, d, 2, 7, "red"), aZ(t, d, 4), aZ(t, d, 1, 7), anA(t, d, 9, 7, "red"))
	y.Drop(9)
	y.Put(anA(t, d, 1, 7, "red"))
	y.Drop(4)
	y.Put(anA(t, d, 3, 7, "blue"))
	y.Drop(2)
	y.Drop(9)
	y.Put(aZ(t, d, 2, 7))
	want(t, "the same", reflect.DeepEqual(x, y), true)
}
