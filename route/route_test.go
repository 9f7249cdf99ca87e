package route

import (
	"math"
	"slices"
	"testing"

	"switchyard/api"
	"switchyard/check"
	"switchyard/defn"
	"switchyard/index"
	"switchyard/item"
)

// example is that of the document.
const example = `artifact order { attr id int; key id; state new start; state sent; state done final; in paid 0..1; out ask 0..1;
	move go: new -> sent send ask; move end: sent -> done on paid; }
artifact ship { attr id int; key id; state idle start; in req 0..1; out told 0..1; move do: idle -> idle on req send told; }
channel ask: order.ask -> ship.req by id for 1..1 spawn;
channel told: ship.told -> order.paid by id for 1..1;
role boss { sees order(id); may order; may order.go; }
`

// full has channels of each sort to the type a, whose Key is in another order
// than its attributes are, and b, which is like it.
const full = `enum color { red, blue }
artifact a { attr k int; attr l color; attr n list; key l, k; state end final; state one start; state two; in i 0..9; out o 0..9; }
artifact b { attr k int; attr l color; attr n list; key l, k; state one start; state end final; in i 0..9; out o 0..9; }
artifact z { attr t list; key t; state s start; in h 0..9; out g 0..9; }
channel c11: b.o -> a.i by l, k for 1..1;
channel c11s: b.o -> a.i by l, k for 1..1 spawn;
channel c24: a.o -> a.i by l, k for 2..4;
channel c33: a.o -> a.i by l, k for 3..3;
channel c02: a.o -> a.i by l, k for 0..2;
channel c02s: a.o -> a.i by l, k for 0..2 spawn;
channel c13s: z.g -> a.i by 'red, 1 for 1..3 spawn;
channel toB: z.g -> b.i by 'red, 1 for 1..9;
channel toZ: a.o -> z.h by n for 1..2;
`

func want[T comparable](t *testing.T, what string, got, wanted T) {
	t.Helper()
	if got != wanted {
		t.Errorf("%s: got %#v, want %#v", what, got, wanted)
	}
}

// answer is what Pick or Over answers.
type answer struct {
	ids       []int64
	fate, why int
	bad       api.Errno
}

func goes(ids ...int64) answer   { return answer{ids: ids, fate: Goes} }
func lost(why int) answer        { return answer{fate: Lost, why: why} }
func fails(bad api.Errno) answer { return answer{bad: bad} }

func pick(d api.Def, x *index.Index, channel string, key ...api.Value) answer {
	ids, fate, why, bad := Pick(d, x, channel, key...)
	return answer{ids, fate, why, bad}
}

func over(d api.Def, items []api.Item, channel string, key ...api.Value) answer {
	ids, fate, why, bad := Over(d, items, channel, key...)
	return answer{ids, fate, why, bad}
}

func same(t *testing.T, what string, got, wanted answer) {
	t.Helper()
	if !slices.Equal(got.ids, wanted.ids) || got.fate != wanted.fate || got.why != wanted.why || got.bad != wanted.bad {
		t.Errorf("%s: got %+v, want %+v", what, got, wanted)
	}
}

// gives checks what Over answers, and that Pick answers the same of the live
// artifacts, of which the last one of each ID counts.
func gives(t *testing.T, what string, d api.Def, items []api.Item, channel string, key []api.Value, wanted answer) {
	t.Helper()
	same(t, what+" (Over)", over(d, items, channel, key...), wanted)
	same(t, what+" (Pick)", pick(d, living(d, items), channel, key...), wanted)
}

// living is an index of the artifacts that are live.
func living(d api.Def, items []api.Item) *index.Index {
	last := map[int64]api.Item{}
	for _, a := range items {
		last[a.ID] = a
	}
	x := index.New(d)
	for _, a := range last {
		if item.Live(d, a) {
			x.Put(a)
		}
	}
	return x
}

// read is the choreography of a source, which has to be valid.
func read(t *testing.T, s string) api.Def {
	t.Helper()
	d, at, bad := defn.Parse(s)
	if bad != api.OK || check.Check(d) != api.OK {
		t.Fatalf("%s: %v at %d, %v", s, bad, at, check.Check(d))
	}
	return d
}

func num(n int64) api.Value          { return api.Value{Kind: api.Int, Num: n} }
func sym(s string) api.Value         { return api.Value{Kind: api.Sym, Text: s} }
func list(l ...int64) api.Value      { return api.Value{Kind: api.List, List: l} }
func row(l ...api.Value) []api.Value { return l }

// made is an artifact of the type a or b in the state one, with this key.
func made(typ string, id int64, l string, k int64) api.Item {
	return api.Item{ID: id, Type: typ, State: "one", Attrs: row(num(k), sym(l), list()), Counts: []int{0, 0}}
}

// changed is an artifact with something changed.
func changed(a api.Item, change func(a *api.Item)) api.Item {
	change(&a)
	return a
}

func in(a api.Item, state string) api.Item {
	a.State = state
	return a
}

// some are so many artifacts of the type a with the key 'red, 1.
func some(n int) []api.Item {
	var out []api.Item
	for i := range n {
		out = append(out, made("a", int64(10*i), "red", 1))
	}
	return out
}

func redOne() []api.Value { return row(sym("red"), num(1)) }

func TestExample(t *testing.T) {
	d := read(t, example)
	order := func(id int64, state string) api.Item {
		x, _ := item.Spawn(d, "order", id, 0, num(7))
		return in(x, state)
	}
	ship, _ := item.Spawn(d, "ship", 2, 0, num(7))
	gives(t, "1: a ship comes", d, []api.Item{order(1, "sent")}, "ask", row(num(7)), answer{fate: Spawns})
	gives(t, "1: a ship is there", d, []api.Item{order(1, "sent"), ship}, "ask", row(num(7)), goes(2))
	gives(t, "2: the order", d, []api.Item{order(1, "sent"), ship}, "told", row(num(7)), goes(1))
	gives(t, "4: two orders", d, []api.Item{order(1, "sent"), ship, order(4, "new")}, "told", row(num(7)), lost(api.TooMany))
	gives(t, "5: one of them is final", d, []api.Item{order(1, "done"), ship, order(4, "new")}, "told", row(num(7)), goes(4))
	gives(t, "6: another key", d, []api.Item{order(1, "sent"), ship}, "ask", row(num(9)), answer{fate: Spawns})
}

// TestNumbers: P17.1, what the numbers are.
func TestNumbers(t *testing.T) {
	want(t, "Goes", Goes, 0)
	want(t, "Spawns", Spawns, 1)
	want(t, "Lost", Lost, 2)
}

// verdict is Verdict by the chapter's words, one after the other.
func verdict(low, high, n int, spawn bool) (int, int) {
	in := low <= n && n <= high
	if n > 0 && in {
		return 0, 0
	}
	if n == 0 && spawn {
		return 1, 0
	}
	if in {
		return 0, 0
	}
	if n == 0 {
		return 2, 1
	}
	if n < low {
		return 2, 2
	}
	if n > high {
		return 2, 3
	}
	return -1, -1
}

// TestVerdict: P17.1, each number with each Low, High and Spawn.
func TestVerdict(t *testing.T) {
	for _, c := range []struct {
		low, high int
		spawn     bool
		n         int
		fate, why int
	}{
		{1, 2, true, 0, Spawns, 0}, {1, 2, true, 1, Goes, 0}, {1, 2, true, 2, Goes, 0}, {1, 2, true, 3, Lost, api.TooMany},
		{0, 2, false, 0, Goes, 0}, {0, 2, true, 0, Spawns, 0}, {0, 2, false, 3, Lost, api.TooMany},
		{1, 2, false, 0, Lost, api.NoMatch}, {2, 3, false, 1, Lost, api.TooFew}, {2, 3, false, 2, Goes, 0}, {2, 3, false, 3, Goes, 0}, {2, 3, true, 1, Lost, api.TooFew}, {2, 3, true, 0, Spawns, 0},
		{3, 1, false, 2, Lost, api.TooFew}, {3, 1, false, 3, Lost, api.TooMany}, {3, 1, false, 1, Lost, api.TooFew}, {3, 1, false, 0, Lost, api.NoMatch}, {3, 1, true, 0, Spawns, 0},
		{0, 2, false, -1, Lost, api.TooFew}, {-2, 2, false, -1, Goes, 0}, {-2, 2, true, -1, Goes, 0}, {-3, -1, false, 0, Lost, api.NoMatch}, {-3, -2, false, -1, Lost, api.TooMany},
	} {
		fate, why := Verdict(api.Channel{Low: c.low, High: c.high, Spawn: c.spawn}, c.n)
		want(t, "the fate", fate, c.fate)
		want(t, "the reason", why, c.why)
	}
	numbers := []int{math.MinInt, math.MinInt + 1, -1001, -3, -2, -1, 0, 1, 2, 3, 4, 5, 1000, 1001, math.MaxInt - 1, math.MaxInt}
	for _, low := range numbers {
		for _, high := range numbers {
			for _, n := range numbers {
				for _, spawn := range []bool{false, true} {
					fate, why := Verdict(api.Channel{Name: "c", To: "a", Low: low, High: high, Spawn: spawn}, n)
					wantedFate, wantedWhy := verdict(low, high, n, spawn)
					want(t, "the fate", fate, wantedFate)
					want(t, "the reason", why, wantedWhy)
				}
			}
		}
	}
}

// TestHowMany: P17.2 and P17.3, from no artifact to more than any channel
// takes: a message goes to all of them or to none.
func TestHowMany(t *testing.T) {
	d := read(t, full)
	others := []api.Item{made("a", 1, "blue", 1), made("a", 2, "red", 2), made("b", 3, "red", 1), in(made("a", 4, "red", 1), "end"), {ID: 5, Type: "z", State: "s", Attrs: row(list(1))}}
	many, few, none := lost(api.TooMany), lost(api.TooFew), lost(api.NoMatch)
	spawns := answer{fate: Spawns}
	all := goes(0, 10, 20, 30, 40)
	up := func(n int) answer { return goes(all.ids[:n]...) }
	for channel, wanted := range map[string][]answer{
		"c11":  {none, up(1), many, many, many, many},
		"c11s": {spawns, up(1), many, many, many, many},
		"c24":  {none, few, up(2), up(3), up(4), many},
		"c33":  {none, few, few, up(3), many, many},
		"c02":  {up(0), up(1), up(2), many, many, many},
		"c02s": {spawns, up(1), up(2), many, many, many},
		"c13s": {spawns, up(1), up(2), up(3), many, many},
	} {
		for n, one := range wanted {
			gives(t, channel, d, some(n), channel, redOne(), one)
			gives(t, channel+" among others", d, slices.Concat(others, some(n)), channel, redOne(), one)
			gives(t, channel+" ahead of others", d, slices.Concat(some(n), others), channel, redOne(), one)
		}
	}
}

// TestKeys: P17.2, the artifacts that have the key, all of it.
func TestKeys(t *testing.T) {
	d := read(t, full)
	items := []api.Item{
		made("a", 1, "red", 1), made("a", 2, "red", 2), made("a", 3, "blue", 1), made("b", 4, "red", 1), made("b", 5, "red", 1), made("b", 6, "blue", 9),
		{ID: 7, Type: "z", State: "s", Attrs: row(list(1, 2))}, {ID: 8, Type: "z", State: "s", Attrs: row(list(2, 1))}, {ID: 9, Type: "z", State: "s", Attrs: row(list())}, {ID: 10, Type: "z", State: "s", Attrs: row(list(1, 2))},
	}
	none := lost(api.NoMatch)
	for _, c := range []struct {
		channel string
		key     []api.Value
		wanted  answer
	}{
		{"c11", row(sym("red"), num(1)), goes(1)}, {"c11", row(sym("red"), num(2)), goes(2)}, {"c11", row(sym("blue"), num(1)), goes(3)}, {"c11", row(sym("blue"), num(2)), none},
		{"c11", row(sym("blue"), num(9)), none}, {"c11", row(sym("red"), num(math.MinInt64)), none}, {"c02", row(sym("red"), num(math.MaxInt64)), goes()},
		{"toB", row(sym("red"), num(1)), goes(4, 5)}, {"toB", row(sym("blue"), num(9)), goes(6)}, {"toB", row(sym("blue"), num(1)), none},
		{"toZ", row(list(1, 2)), goes(7, 10)}, {"toZ", row(list(2, 1)), goes(8)}, {"toZ", row(list()), goes(9)}, {"toZ", row(list(1)), none}, {"toZ", row(list(12)), none}, {"toZ", row(list(0)), none},
	} {
		gives(t, c.channel, d, items, c.channel, c.key, c.wanted)
	}
}

// TestNotThose: P17.2, artifacts that a message does not go to.
func TestNotThose(t *testing.T) {
	d := read(t, full)
	a := made("a", 1, "red", 1)
	for what, one := range map[string]api.Item{
		"final":                      in(a, "end"),
		"in a state of another type": in(a, "s"),
		"in no state":                in(a, ""),
		"of another type":            made("b", 1, "red", 1),
		"of no type":                 made("", 1, "red", 1),
		"of a type that is not":      made("none", 1, "red", 1),
		"with another value":         made("a", 1, "red", 2),
		"with the other value":       made("a", 1, "blue", 1),
		"without values":             changed(a, func(a *api.Item) { a.Attrs = nil }),
		"with one value of the key":  changed(a, func(a *api.Item) { a.Attrs = row(num(1)) }),
		"with a None":                changed(a, func(a *api.Item) { a.Attrs = row(api.Value{}, sym("red")) }),
		"with a value not valid":     changed(a, func(a *api.Item) { a.Attrs = row(api.Value{Kind: api.Int, Num: 1, Text: "1"}, sym("red"), list()) }),
		"with the key as a message":  changed(in(a, "end"), func(a *api.Item) { a.Box = []api.Mail{{Channel: "c11", Key: redOne()}} }),
	} {
		gives(t, what, d, []api.Item{one}, "c11", redOne(), lost(api.NoMatch))
		gives(t, what+", and one that is", d, []api.Item{one, made("a", 2, "red", 1)}, "c11", redOne(), goes(2))
	}
	for what, one := range map[string]api.Item{
		"in another state": in(a, "two"), "that does not fit": changed(a, func(a *api.Item) { a.Since, a.Counts = -1, []int{99} }),
		"with other values": changed(a, func(a *api.Item) { a.Attrs = row(num(1), sym("red"), num(5), num(6)) }), "without a value beyond the key": changed(a, func(a *api.Item) { a.Attrs = row(num(1), sym("red")) }),
		"with messages": changed(a, func(a *api.Item) { a.Box = []api.Mail{{Channel: "c11", Key: redOne()}, {}} }),
	} {
		gives(t, what, d, []api.Item{one}, "c11", redOne(), goes(1))
	}
}

// TestSameID: P17.2, of artifacts with one ID the last one counts.
func TestSameID(t *testing.T) {
	d := read(t, full)
	a := made("a", 1, "red", 1)
	final, two, other, another, none := in(a, "end"), in(a, "two"), made("a", 1, "blue", 1), made("b", 1, "red", 1), made("none", 1, "red", 1)
	second := made("a", 2, "red", 1)
	for _, c := range []struct {
		what   string
		items  []api.Item
		wanted []int64
	}{
		{"twice", []api.Item{a, a}, []int64{1}}, {"in another state", []api.Item{a, two}, []int64{1}},
		{"then final", []api.Item{a, final}, nil}, {"final then", []api.Item{final, a}, []int64{1}}, {"final between", []api.Item{a, final, a}, []int64{1}},
		{"then another key", []api.Item{a, other}, nil}, {"another key then", []api.Item{other, a}, []int64{1}},
		{"then another type", []api.Item{a, another}, nil}, {"another type then", []api.Item{another, a}, []int64{1}},
		{"then no type", []api.Item{a, none}, nil}, {"no type then", []api.Item{none, a}, []int64{1}},
		{"then final, of another type", []api.Item{a, in(another, "end")}, nil},
		{"and another one", []api.Item{a, second, final}, []int64{2}}, {"and another one", []api.Item{second, final, a}, []int64{1, 2}},
		{"both twice", []api.Item{second, a, second, a, a}, []int64{1, 2}}, {"both final at last", []api.Item{second, a, a, final, in(second, "end")}, nil},
	} {
		gives(t, c.what, d, c.items, "c02", redOne(), goes(c.wanted...))
	}
}

// TestAnyOrder: P17.2, the IDs are in order, whatever that of the artifacts.
func TestAnyOrder(t *testing.T) {
	d := read(t, full)
	ids := []int64{math.MinInt64, -1, 0, 1, math.MaxInt64}
	var items []api.Item
	for _, id := range ids {
		items = append(items, made("b", id, "red", 1))
	}
	for turn := range items {
		order := slices.Concat(items[turn:], items[:turn])
		gives(t, "turned", d, order, "toB", redOne(), goes(ids...))
		slices.Reverse(order)
		gives(t, "reversed", d, order, "toB", redOne(), goes(ids...))
		gives(t, "without one", d, order[1:], "toB", redOne(), goes(slices.DeleteFunc(slices.Clone(ids), func(id int64) bool { return id == order[0].ID })...))
	}
}
