package index

import (
	"math"
	"slices"
	"strings"
	"testing"

	"switchyard/api"
	"switchyard/check"
)

// TestFind: P16.1 and P16.2, keys of several values, and of lists.
func TestFind(t *testing.T) {
	d := read(t, full)
	x := holding(d,
		anA(t, d, 1, 7, "red"), anA(t, d, 2, 7, "blue"), anA(t, d, 3, 8, "red"), anA(t, d, 4, 7, "red"),
		aZ(t, d, 5), aZ(t, d, 6, 0), aZ(t, d, 7, 1, 2), aZ(t, d, 8, 2, 1), aZ(t, d, 9, 12), aZ(t, d, 10, 1, 2), aZ(t, d, 11, 1, 2, 3))
	long := strings.Repeat("x", 9999)
	for _, c := range []struct {
		what, typ string
		key       []api.Value
		wanted    []int64
	}{
		{"a key", "a", row(num(7), sym("red")), []int64{1, 4}},
		{"one other value", "a", row(num(7), sym("blue")), []int64{2}},
		{"the other other value", "a", row(num(8), sym("red")), []int64{3}},
		{"both other values", "a", row(num(8), sym("blue")), nil},
		{"in the order of the attributes", "a", row(sym("red"), num(7)), nil},
		{"too few", "a", row(num(7)), nil},
		{"none", "a", nil, nil},
		{"too many", "a", row(num(7), sym("red"), num(7)), nil},
		{"too many by a None", "a", row(num(7), sym("red"), api.Value{}), nil},
		{"another kind", "a", row(num(7), text("red")), nil},
		{"another kind", "a", row(text("7"), sym("red")), nil},
		{"a text of both", "a", row(text("7,'red")), nil},
		{"a Sym of both", "a", row(num(7), sym("red,'red")), nil},
		{"not valid", "a", row(api.Value{Kind: api.Int, Num: 7, Text: "7"}, sym("red")), nil},
		{"not valid", "a", row(num(7), api.Value{Kind: api.Sym, Num: 1, Text: "red"}), nil},
		{"not valid", "a", row(num(7), api.Value{Kind: api.Sym, Text: "red", List: []int64{0}}), nil},
		{"of no kind", "a", row(api.Value{Kind: 99}, api.Value{Kind: -1}), nil},
		{"a long text", "a", row(num(7), text(long)), nil},
		{"Ints of the ends", "a", row(num(math.MinInt64), num(math.MaxInt64)), nil},
		{"an empty list", "z", row(list()), []int64{5}},
		{"no list", "z", row(api.Value{Kind: api.List}), []int64{5}},
		{"a list of 0", "z", row(list(0)), []int64{6}},
		{"a list", "z", row(list(1, 2)), []int64{7, 10}},
		{"the list turned", "z", row(list(2, 1)), []int64{8}},
		{"a list of one", "z", row(list(12)), []int64{9}},
		{"a longer list", "z", row(list(1, 2, 3)), []int64{11}},
		{"a shorter list", "z", row(list(1)), nil},
		{"its numbers", "z", row(num(1), num(2)), nil},
		{"no list but none", "z", nil, nil},
		{"a type without artifacts", "order", row(num(7)), nil},
		{"a type that does not exist", "none", row(num(7)), nil},
		{"a type that does not exist", "none", nil, nil},
		{"no type", "", nil, nil},
		{"a name with a blank", "a ", row(num(7), sym("red")), nil},
		{"a long name", long, row(num(7), sym("red")), nil},
	} {
		got := x.Find(c.typ, c.key...)
		gives(t, c.what, got, c.wanted...)
		for _, id := range got {
			want(t, c.what+": of All", slices.Contains(x.All(c.typ), id), true)
		}
	}
}

// TestWith: P16.1, the value of one attribute.
func TestWith(t *testing.T) {
	d := read(t, full)
	x := holding(d, anA(t, d, 1, 7, "red"), anA(t, d, 2, 7, "blue"), anA(t, d, 7, 8, "red"), aZ(t, d, 5), aZ(t, d, 6, 7, 1))
	for _, c := range []struct {
		what, typ, attr string
		v               api.Value
		wanted          []int64
	}{
		{"an Int", "a", "k", num(7), []int64{1, 2}},
		{"another attribute", "a", "n", num(7), []int64{7}},
		{"another type", "z", "k", num(7), nil},
		{"another type", "z", "k", num(0), []int64{5, 6}},
		{"a Sym", "a", "l", sym("red"), []int64{1, 7}},
		{"another Sym", "a", "l", sym("blue"), []int64{2}},
		{"a Sym that no enum has", "a", "l", sym("green"), nil},
		{"a Bool", "a", "b", flag(1), []int64{1, 2, 7}},
		{"another Bool", "a", "b", flag(0), nil},
		{"a Bool that is not valid", "a", "b", flag(2), nil},
		{"an Int for a Bool", "a", "b", num(1), nil},
		{"a Text", "a", "t", text("t"), []int64{1, 2, 7}},
		{"another Text", "a", "t", text("T"), nil},
		{"a Sym for a Text", "a", "t", sym("t"), nil},
		{"a Text with more in it", "a", "t", api.Value{Kind: api.Text, Text: "t", Num: 1}, nil},
		{"a List", "a", "s", list(7, 1), []int64{1}},
		{"the same list of another type", "z", "t", list(7, 1), []int64{6}},
		{"an empty List", "z", "t", list(), []int64{5}},
		{"an empty List for a List", "a", "s", list(), nil},
		{"a List with more in it", "z", "t", api.Value{Kind: api.List, Text: "a"}, nil},
		{"None", "a", "k", api.Value{}, nil},
		{"no kind", "a", "k", api.Value{Kind: 7, Num: 7}, nil},
		{"an attribute that does not exist", "a", "none", num(7), nil},
		{"an attribute of another type", "z", "n", num(1), nil},
		{"no attribute", "a", "", num(7), nil},
		{"a state", "a", "one", sym("one"), nil},
		{"a type that does not exist", "none", "k", num(7), nil},
		{"no type", "", "k", num(7), nil},
		{"a type without artifacts", "order", "id", num(7), nil},
	} {
		gives(t, c.what, x.With(c.typ, c.attr, c.v), c.wanted...)
	}
}

// odd has types as no valid choreography has them: two of one name, one of no
// name, Keys of names that no attribute has, or two have, or of none.
func odd() api.Def {
	attrs := []api.Attr{{Name: "p"}, {Name: "q"}, {Name: "p"}, {Name: ""}}
	return api.Def{Types: []api.Type{
		{Name: "b", Attrs: attrs, Key: []string{"q", "p"}},
		{Name: "b", Attrs: attrs, Key: []string{"p"}},
		{Name: "c", Attrs: attrs, Key: []string{"p", "none", "q"}},
		{Name: "e", Attrs: attrs, Key: []string{"p", "", "p", "p", "q", "q"}},
		{Name: "f", Attrs: attrs},
		{Name: "", Attrs: attrs[1:2], Key: []string{"q"}},
		{Name: "h", Key: []string{"p"}},
	}}
}

// TestOdd: P16.1, choreographies that are not valid.
func TestOdd(t *testing.T) {
	d := odd()
	want(t, "valid", check.Check(d) == api.OK, false)
	x := New(d)
	for i, typ := range []string{"b", "c", "e", "f", "", "h", "none"} {
		x.Put(api.Item{ID: int64(10 * i), Type: typ, Attrs: row(num(1), num(2), num(3), num(4))})
		x.Put(api.Item{ID: int64(10*i) + 1, Type: typ, Attrs: row(num(1))})
		x.Put(api.Item{ID: int64(10*i) + 2, Type: typ})
		x.Put(api.Item{ID: int64(10*i) + 3, Type: typ, Attrs: row(num(1), num(2), num(3), num(4), num(5), num(6))})
		gives(t, "All of "+typ, x.All(typ), int64(10*i), int64(10*i)+1, int64(10*i)+2, int64(10*i)+3)
	}
	for _, c := range []struct {
		what, typ string
		key       []api.Value
		wanted    []int64
	}{
		{"the first type of the name", "b", row(num(2), num(1)), []int64{0, 3}},
		{"the Key of the second one", "b", row(num(1)), nil},
		{"a value that is missing, left out", "b", row(num(1), num(1)), nil},
		{"a value that is missing, as a None", "b", row(api.Value{}, num(1)), nil},
		{"too few, as an artifact has them", "b", nil, nil},
		{"a name of no attribute, left out", "c", row(num(1), num(2)), nil},
		{"a name of no attribute, as a None", "c", row(num(1), api.Value{}, num(2)), nil},
		{"a name of no attribute, with another value", "c", row(num(1), num(2), num(2)), nil},
		{"names that stand there often", "e", row(num(1), num(4), num(1), num(1), num(2), num(2)), []int64{20, 23}},
		{"names that stand there often, once", "e", row(num(1), num(4), num(2)), nil},
		{"the second attribute of a name", "e", row(num(3), num(4), num(3), num(3), num(2), num(2)), nil},
		{"no Key", "f", nil, []int64{30, 31, 32, 33}},
		{"no Key, but a value", "f", row(num(1)), nil},
		{"no name", "", row(num(1)), []int64{40, 41, 43}},
		{"no attributes", "h", row(num(1)), nil},
		{"no attributes, no values", "h", nil, nil},
		{"a type that does not exist", "none", nil, nil},
		{"a type that does not exist", "none", row(num(1)), nil},
	} {
		gives(t, c.what, x.Find(c.typ, c.key...), c.wanted...)
	}
	for _, c := range []struct {
		what, typ, attr string
		n               int64
		wanted          []int64
	}{
		{"an attribute", "b", "p", 1, []int64{0, 1, 3}},
		{"the second one of its name", "b", "p", 3, nil},
		{"beyond the values of some", "b", "q", 2, []int64{0, 3}},
		{"no name", "b", "", 4, []int64{0, 3}},
		{"a value beyond the attributes", "b", "r", 5, nil},
		{"an attribute that no Key names", "f", "q", 2, []int64{30, 33}},
		{"a type of no name", "", "q", 1, []int64{40, 41, 43}},
		{"a value beyond the attributes", "", "q", 2, nil},
		{"a type without attributes", "h", "p", 1, nil},
		{"a type that does not exist", "none", "p", 1, nil},
	} {
		gives(t, "With "+c.what, x.With(c.typ, c.attr, num(c.n)), c.wanted...)
	}
	gives(t, "None is no value that is missing", x.With("b", "q", api.Value{}))
}

// TestNotRight: P16.1, artifacts that do not fit, with values that are not
// valid: two values are equal if all of them is.
func TestNotRight(t *testing.T) {
	vals := row(
		api.Value{}, api.Value{Num: 1}, api.Value{Text: "a"}, api.Value{List: []int64{1}}, api.Value{Kind: 6}, api.Value{Kind: -1}, api.Value{Kind: 6, Num: 1}, sym("none"), text("none"),
		num(1), api.Value{Kind: api.Int, Num: 1, Text: "a"}, api.Value{Kind: api.Int, Num: 1, Text: "b"}, api.Value{Kind: api.Int, Num: 1, List: []int64{1}},
		flag(0), flag(1), flag(2), flag(-1), sym("true"), text("true"), text(strings.Repeat("a", 65)), text(strings.Repeat("a", 66)), text(""), text("\x00"), text("\\x00"),
		sym(""), sym("a"), sym("a b"), sym("a,'b"), sym("\""), text("'"), list(), list(1), list(make([]int64, 17)...), api.Value{Kind: api.List, Num: 1}, api.Value{Kind: api.List, Text: "[]"}, text("[]"))
	d := read(t, full)
	x := New(d)
	for i, v := range vals {
		x.Put(api.Item{ID: int64(i), Type: "order", State: "none", Since: -1, Attrs: row(v), Counts: []int{-1}})
	}
	for i, v := range vals {
		gives(t, "Find", x.Find("order", v), int64(i))
		gives(t, "With", x.With("order", "id", v), int64(i))
	}
	y := New(d)
	for i, v := range vals {
		for j, w := range vals {
			y.Put(api.Item{ID: int64(100*i + j), Type: "a", Attrs: row(num(0), w, v)})
		}
	}
	for i, v := range vals {
		for j, w := range vals {
			gives(t, "two values", y.Find("a", v, w), int64(100*i+j))
			y.Drop(int64(100*i + j))
			gives(t, "it is gone", y.Find("a", v, w))
		}
	}
	want(t, "what is left", len(y.items)+len(y.alike), 0)
}
