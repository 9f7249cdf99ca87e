package value

import (
	"math"
	"slices"
	"strconv"
	"strings"
	"testing"
	"unsafe"

	"switchyard/api"
)

func want[T comparable](t *testing.T, what string, got, wanted T) {
	t.Helper()
	if got != wanted {
		t.Errorf("%s: got %#v, want %#v", what, got, wanted)
	}
}

const letters = "ABCDEFGHIJKLMNOPQRSTUVWXYZabcdefghijklmnopqrstuvwxyz"

func kindAlone(k int) api.Value    { return api.Value{Kind: k} }
func intOf(n int64) api.Value      { return api.Value{Kind: api.Int, Num: n} }
func boolOf(n int64) api.Value     { return api.Value{Kind: api.Bool, Num: n} }
func textOf(s string) api.Value    { return api.Value{Kind: api.Text, Text: s} }
func symOf(s string) api.Value     { return api.Value{Kind: api.Sym, Text: s} }
func listOf(l ...int64) api.Value  { return api.Value{Kind: api.List, List: l} }
func listOfLength(n int) api.Value { return listOf(make([]int64, n)...) }
func textOfLength(n int) api.Value { return textOf(strings.Repeat("\xff", n)) }
func nameOfLength(n int) string    { return strings.Repeat("n", n) }

func withNum(v api.Value, n int64) api.Value {
	v.Num = n
	return v
}

func withText(v api.Value, s string) api.Value {
	v.Text = s
	return v
}

func withList(v api.Value, l ...int64) api.Value {
	v.List = l
	return v
}

// orders returns the order of two values, and that of them the other way round.
func orders(a, b api.Value) [2]int {
	return [2]int{Order(a, b), Order(b, a)}
}

func sames(a, b api.Value) [2]bool {
	return [2]bool{Same(a, b), Same(b, a)}
}

// ascending returns valid values, each of which precedes the next one.
func ascending() []api.Value {
	return []api.Value{
		{},
		intOf(math.MinInt64),
		intOf(math.MinInt64 + 1),
		intOf(-1),
		intOf(0),
		intOf(1),
		intOf(math.MaxInt64 - 1),
		intOf(math.MaxInt64),
		boolOf(0),
		boolOf(1),
		textOf(""),
		textOf("\x00"),
		textOf("\x00\x00"),
		textOf("\n"),
		textOf("A"),
		textOf("a"),
		textOf("a\x00"),
		textOf("a,b"),
		textOf("aa"),
		textOf("b"),
		textOf("\x7f"),
		textOf("\x80"),
		textOf("ä"),
		textOf("\xff"),
		textOfLength(api.MaxText),
		symOf("A"),
		symOf("A1"),
		symOf("AB"),
		symOf("A_"),
		symOf("Aa"),
		symOf("a"),
		symOf(nameOfLength(api.MaxName)),
		listOf(),
		listOf(math.MinInt64),
		listOf(math.MinInt64, math.MaxInt64),
		listOf(-1, 5),
		listOf(0),
		listOf(0, 0),
		listOf(0, 1),
		listOf(1),
		listOf(1, math.MinInt64),
		listOf(1, 2, 3),
		listOf(1, 3),
		listOf(2),
		listOf(math.MaxInt64),
		listOf(slices.Repeat([]int64{math.MaxInt64}, api.MaxList)...),
	}
}

func TestName(t *testing.T) {
	for s, is := range map[string]bool{
		"":                             false,
		"a":                            true,
		"Z":                            true,
		"a_1":                          true,
		"A0":                           true,
		"a__":                          true,
		"Aa0_zZ9":                      true,
		"true":                         true,
		"_":                            false,
		"_a":                           false,
		"0":                            false,
		"1a":                           false,
		"a b":                          false,
		" a":                           false,
		"a ":                           false,
		"a\n":                          false,
		"a\x00":                        false,
		"a-b":                          false,
		"a.b":                          false,
		"'a":                           false,
		"ä":                            false,
		"aä":                           false,
		"aé1":                          false,
		"\xff":                         false,
		"a\xff":                        false,
		"a\xc3":                        false,
		"a\xc3b":                       false,
		"a\ufffd":                      false,
		"a\u0661":                      false, // a digit of another script
		"\u212a":                       false, // the sign of Kelvin, a K
		"\ufeffa":                      false,
		nameOfLength(23):               true,
		nameOfLength(24):               true,
		nameOfLength(25):               false,
		nameOfLength(1 << 20):          false,
		nameOfLength(23) + "\xff":      false,
		nameOfLength(24) + "\x00":      false,
		letters[:24]:                   true,
		letters[26:50]:                 true,
		letters[26:51]:                 false,
		"a" + strings.Repeat("_", 23):  true,
		"a" + strings.Repeat("9", 23):  true,
		"a" + strings.Repeat("9", 24):  false,
		strings.Repeat("ä", 12):        false,
		strings.Repeat("_", 24):        false,
		"x" + strings.Repeat("y_9", 7): true,
	} {
		want(t, "Name of "+strconv.Quote(s), Name(s), is)
	}
}

// TestNameByBytes: which bytes a name may begin with, and which may follow.
func TestNameByBytes(t *testing.T) {
	for b := range 256 {
		s := string([]byte{byte(b)})
		begins := strings.Contains(letters, s)
		follows := strings.Contains(letters+"0123456789_", s)
		want(t, "Name of "+strconv.Quote(s), Name(s), begins)
		want(t, "Name of "+strconv.Quote(s+"b"), Name(s+"b"), begins)
		want(t, "Name of "+strconv.Quote("a"+s), Name("a"+s), follows)
		want(t, "Name of "+strconv.Quote("a"+s+"b"), Name("a"+s+"b"), follows)
	}
}

func TestRight(t *testing.T) {
	for _, v := range ascending() {
		want(t, "Right of "+Print(v), Right(v), true)
	}
	for _, v := range []api.Value{
		withList(api.Value{}, []int64{}...), // nil and empty are the same
		withList(intOf(1), make([]int64, 0, 9)...),
		kindAlone(api.List),
		withList(kindAlone(api.List), []int64{}...),
		kindAlone(api.Int), kindAlone(api.Bool), kindAlone(api.Text),
		textOfLength(api.MaxText - 1), listOfLength(api.MaxList - 1),
		textOf(strings.Repeat("\"", api.MaxText)),
		symOf("true"), symOf("a_"),
	} {
		want(t, "Right of "+Print(v), Right(v), true)
	}
}

func TestWrong(t *testing.T) {
	for name, v := range map[string]api.Value{
		"a Bool of 2":              boolOf(2),
		"a Bool of -1":             boolOf(-1),
		"a Bool of the least":      boolOf(math.MinInt64),
		"a Bool of the greatest":   boolOf(math.MaxInt64),
		"a Bool of 256":            boolOf(256),
		"a long Text":              textOfLength(api.MaxText + 1),
		"a Text of many bytes":     textOf(strings.Repeat("ä", 33)),
		"a very long Text":         textOfLength(1 << 20),
		"a Sym without a name":     symOf(""),
		"a Sym of a digit":         symOf("1"),
		"a Sym of a space":         symOf("a b"),
		"a Sym of an underscore":   symOf("_a"),
		"a Sym with its quote":     symOf("'a"),
		"a long Sym":               symOf(nameOfLength(api.MaxName + 1)),
		"a long List":              listOfLength(api.MaxList + 1),
		"a very long List":         listOfLength(1 << 16),
		"an unknown Kind":          kindAlone(6),
		"a negative Kind":          kindAlone(-1),
		"the least Kind":           kindAlone(math.MinInt),
		"the greatest Kind":        kindAlone(math.MaxInt),
		"a Kind of 256":            kindAlone(256),
		"an unknown Kind with Num": withNum(kindAlone(7), 1),
	} {
		want(t, name, Right(v), false)
	}
}

// TestForeignFields: what doesn't belong to the kind is zero.
func TestForeignFields(t *testing.T) {
	for _, v := range []api.Value{{}, textOf(""), textOf("a"), symOf("a"), listOf(), listOf(1)} {
		want(t, "Num in "+Print(v), Right(withNum(v, 1)), false)
		want(t, "the least Num in "+Print(v), Right(withNum(v, math.MinInt64)), false)
	}
	for _, v := range []api.Value{{}, intOf(0), intOf(1), boolOf(0), boolOf(1), listOf(), listOf(1)} {
		want(t, "Text in "+Print(v), Right(withText(v, "a")), false)
		want(t, "a byte 0 in "+Print(v), Right(withText(v, "\x00")), false)
	}
	for _, v := range []api.Value{{}, intOf(0), intOf(1), boolOf(0), boolOf(1), textOf(""), textOf("a"), symOf("a")} {
		want(t, "List in "+Print(v), Right(withList(v, 1)), false)
		want(t, "a List of 0 in "+Print(v), Right(withList(v, 0)), false)
	}
}

// TestOrder: all pairs of values whose order is known.
func TestOrder(t *testing.T) {
	all := ascending()
	for i, a := range all {
		for j, b := range all {
			what := Print(a) + " and " + Print(b)
			wanted := 0
			if i < j {
				wanted = -1
			} else if i > j {
				wanted = 1
			}
			want(t, "Order of "+what, Order(a, b), wanted)
			want(t, "Same of "+what, Same(a, b), i == j)
		}
	}
}

// TestOneField: values that differ in one field alone, and in one more behind it
// that must not count.
func TestOneField(t *testing.T) {
	for _, c := range []struct {
		name string
		a, b api.Value
	}{
		{"Kind", api.Value{Kind: 1, Num: 9, Text: "b", List: []int64{9}}, api.Value{Kind: 2, Num: 1, Text: "a", List: []int64{1}}},
		{"Num", api.Value{Kind: 1, Num: 1, Text: "b", List: []int64{9}}, api.Value{Kind: 1, Num: 2, Text: "a", List: []int64{1}}},
		{"Text", api.Value{Kind: 1, Num: 1, Text: "a", List: []int64{9}}, api.Value{Kind: 1, Num: 1, Text: "b", List: []int64{1}}},
		{"List", api.Value{Kind: 1, Num: 1, Text: "a", List: []int64{1}}, api.Value{Kind: 1, Num: 1, Text: "a", List: []int64{9}}},
	} {
		want(t, c.name+" comes first", orders(c.a, c.b), [2]int{-1, 1})
		want(t, c.name+" is another", sames(c.a, c.b), [2]bool{false, false})
	}
	a := api.Value{Kind: 1, Num: 2, Text: "a", List: []int64{3}}
	for name, b := range map[string]api.Value{
		"Kind": {Kind: 2, Num: 2, Text: "a", List: []int64{3}},
		"Num":  {Kind: 1, Num: 3, Text: "a", List: []int64{3}},
		"Text": {Kind: 1, Num: 2, Text: "b", List: []int64{3}},
		"List": {Kind: 1, Num: 2, Text: "a", List: []int64{4}},
	} {
		want(t, name+" alone, in order", orders(a, b), [2]int{-1, 1})
		want(t, name+" alone, same", sames(a, b), [2]bool{false, false})
	}
	want(t, "no field, in order", Order(a, Twin(a)[0]), 0)
	want(t, "no field, same", Same(a, Twin(a)[0]), true)
}

func TestNilIsEmpty(t *testing.T) {
	for _, v := range []api.Value{{}, intOf(1), listOf()} {
		empty := withList(v, make([]int64, 0, 3)...)
		v.List = nil
		want(t, "Same", sames(v, empty), [2]bool{true, true})
		want(t, "Order", orders(v, empty), [2]int{})
	}
	// What lies behind a list's end is none of it.
	a, b := []int64{1, 2}, []int64{1, 3}
	want(t, "spare numbers", Same(listOf(a[:1]...), listOf(b[:1]...)), true)
	want(t, "spare numbers in order", Order(listOf(a[:1]...), listOf(b[:1]...)), 0)
}

func TestTwin(t *testing.T) {
	want(t, "Twin of none", len(Twin()), 0)
	want(t, "Twin of an empty list", len(Twin([]api.Value{}...)), 0)
	all := ascending()
	got := Twin(all...)
	want(t, "Twin's length", len(got), len(all))
	for i, v := range all {
		want(t, "Twin of "+Print(v), Same(got[i], v), true)
		want(t, "Twin of one: "+Print(v), Same(Twin(v)[0], v), true)
	}
	for _, v := range []api.Value{{Kind: 9, Num: 8, Text: "x", List: []int64{7}}, boolOf(5), textOfLength(200), listOfLength(40)} {
		want(t, "Twin of one that is not valid", Same(Twin(v)[0], v), true)
	}
}

// TestTwinIsNobodyElses: nothing is shared, neither the numbers nor what is
// spare behind them, with what was given or with another twin.
func TestTwinIsNobodyElses(t *testing.T) {
	numbers := []int64{1, 2, 3, 4, 5}
	v := listOf(numbers[:2]...)
	given := make([]api.Value, 2, 4)
	given[0], given[1] = v, v
	spare := given[:4]
	spare[2], spare[3] = intOf(8), intOf(9)
	got := Twin(given...)
	all := got[0].List[:cap(got[0].List)]
	for i := range all {
		all[i] = 77
	}
	want(t, "the other twin", Print(got[1]), "[1, 2]")
	got[1].List = append(got[1].List, 88)
	for i := range got[:cap(got)] {
		got[:cap(got)][i] = textOf("x")
	}
	want(t, "the numbers given", Print(listOf(numbers...)), "[1, 2, 3, 4, 5]")
	want(t, "the values given", Key(spare...), "[1, 2],[1, 2],8,9")
	again := Twin(given...)
	numbers[0], given[1] = 6, intOf(7)
	want(t, "the twins", Key(again...), "[1, 2],[1, 2]")
	empty := Twin(listOf(numbers[:0]...))[0].List
	want(t, "no room behind an empty list", len(empty), 0)
	_ = append(empty, 55)
	want(t, "what lies behind an empty list", numbers[0], 6)
	given[0], given[1] = intOf(6), intOf(7)
	_ = append(Twin(given[:0]...), intOf(55))
	want(t, "what lies behind no values", Key(spare...), "6,7,8,9")
	text := textOf(strings.Repeat("ab", 20))
	want(t, "a text's bytes", unsafe.StringData(Twin(text)[0].Text) == unsafe.StringData(text.Text), false)
}
