package view

import (
	"math"
	"slices"
	"strings"
	"testing"

	"switchyard/api"
	"switchyard/value"
)

// TestAttrs: P22.1, the values of the sight's Attrs, in the sight's order.
func TestAttrs(t *testing.T) {
	d := read(t, full+roles)
	x, y, z := made(7), ofB(8), api.Item{ID: 9, Type: "c", State: "new", Attrs: row(num(4))}
	sees(t, "all", d, "all", x, num(1), num(5), flag(1), text("t"), sym("blue"), list(1, 2))
	sees(t, "all", d, "all", y, num(1), num(6))
	sees(t, "all", d, "all", z, num(4))
	sees(t, "turned", d, "turned", x, list(1, 2), sym("blue"), text("t"), flag(1), num(5), num(1))
	sees(t, "turned", d, "turned", y, num(6), num(1))
	sees(t, "some", d, "some", x, text("t"), num(1))
	sees(t, "some", d, "some", y, num(6))
	sees(t, "some, of c", d, "some", z)
	sees(t, "bare", d, "bare", x)
	sees(t, "first", d, "first", x, num(1), num(5))
	for i, s := range []string{"k", "n", "f", "t", "c", "l"} {
		sees(t, s, read(t, full+"role r { sees a("+s+"); }"), "r", x, x.Attrs[i])
	}
}

// TestTypes: P22.1, a role sees nothing of a type that none of its Sees has.
func TestTypes(t *testing.T) {
	d := read(t, full+roles)
	z := api.Item{ID: 9, Type: "c", State: "new", Attrs: row(num(4))}
	for role, hidden := range map[string][]api.Item{
		"nobody": {made(7), ofB(8), z}, "turned": {z}, "bare": {ofB(8), z}, "first": {ofB(8), z}, "last": {ofB(8), z}, "only": {z},
	} {
		for _, x := range hidden {
			hides(t, role, api.OK, d, role, x)
		}
	}
	for _, typ := range []string{"", "none", "A", "a ", "color", "all", "new", "\xff", strings.Repeat("a", 9999)} {
		for _, role := range []string{"all", "some", "nobody", "bare"} {
			hides(t, "no type", api.ErrName, d, role, made(7, of(typ)))
		}
	}
}

// TestRoles: P22.1, a role that there is not.
func TestRoles(t *testing.T) {
	d := read(t, full+roles)
	for _, role := range []string{"", "none", "All", "all ", "al", "a", "new", "\xff", strings.Repeat("r", 9999)} {
		for _, x := range []api.Item{made(7), ofB(8), made(7, of("none")), {}} {
			hides(t, "no role", api.ErrRole, d, role, x)
			hides(t, "no role in nothing", api.ErrRole, api.Def{}, role, x)
		}
	}
}

// TestStates: P22.1, a sight without States shows artifacts in all of them, and
// in such as there are not.
func TestStates(t *testing.T) {
	d := read(t, full+roles)
	shown := map[string][]api.Value{"first": row(num(1), num(5)), "last": row(num(5), num(1)), "only": row(sym("blue"))}
	for role, states := range map[string][]string{"bare": nil, "first": {"new", "mid"}, "last": {"mid", "end"}, "only": {"mid"}} {
		for _, state := range []string{"new", "mid", "end", "none", "N", "", "new ", "mi", "\xff"} {
			x := made(7, in(state))
			if states == nil || slices.Contains(states, state) {
				sees(t, role+" in "+state, d, role, x, shown[role]...)
			} else {
				hides(t, role+" in "+state, api.OK, d, role, x)
			}
		}
	}
	each := read(t, full+"role r { sees a(k) in end, mid, new; }")
	for _, state := range []string{"new", "mid", "end"} {
		sees(t, "all states", each, "r", made(7, in(state)), num(1))
	}
	hides(t, "a state that there is not", api.OK, each, "r", made(7, in("none")))
}

// TestFewer: P22.1, an artifact with fewer attributes than its type is not
// seen, one with more is.
func TestFewer(t *testing.T) {
	d := read(t, full+roles)
	all := made(7).Attrs
	for n := range len(all) + 1 {
		x := made(7, having(all[:n]...))
		if n < len(all) {
			for _, role := range []string{"all", "turned", "some", "bare", "first"} {
				hides(t, "fewer", api.OK, d, role, x)
			}
			continue
		}
		sees(t, "as many", d, "first", x, num(1), num(5))
	}
	more := made(7)
	for _, v := range row(num(99), api.Value{}, api.Value{Kind: -1, Num: 5}, text(strings.Repeat("x", 99)), flag(7)) {
		more.Attrs = append(more.Attrs, v)
		sees(t, "more", d, "all", more, all...)
		sees(t, "more", d, "some", more, text("t"), num(1))
		sees(t, "more", d, "bare", more)
		sees(t, "more", d, "only", made(7, in("mid"), having(more.Attrs...)), sym("blue"))
	}
	hides(t, "fewer, of b", api.OK, d, "all", ofB(8, having(num(1))))
	hides(t, "none, of b", api.OK, d, "all", ofB(8, having()))
	sees(t, "more, of b", d, "all", ofB(8, having(num(1), num(2), num(3))), num(1), num(2))
}

// wheres are conditions, by whether they hold of made; those that fail are
// false.
func wheres() map[string]bool {
	return map[string]bool{
		"true": true, "f": true, "k == 1": true, "n > 4": true, "t == \"t\"": true, "c == 'blue": true, "l == [1, 2]": true, "len(l) == 2 && at(l, 1) == 2": true, "k == 1 && n == 5 && f && t == \"t\" && c == 'blue": true,
		"k == 1 || 1 / 0 == 1": true, "!(k == 2)": true, "len(t) == 1": true,
		"false": false, "!f": false, "k == 2": false, "n < 5": false, "c == 'red": false, "f && !f": false, "len(t) == 0": false,
		"1 / 0 == 1": false, "1 / (k - 1) == 1": false, "n % (n - 5) == 0": false, "at(l, 2) == 1": false, "-9223372036854775807 - n < 0": false, "k == 1 && 1 / 0 == 1": false, "!(1 / 0 == 1)": false, "1 / 0 == 1 || true": false,
		"push(l, 1 / 0) == l": false,
	}
}

// TestWheres: P22.1, a sight shows what its Where is true of.
func TestWheres(t *testing.T) {
	for where, holds := range wheres() {
		d := read(t, full+"role r { sees a(n, c) where "+where+"; sees b(n); } role s { sees a(n, c) in new where "+where+"; }")
		for _, role := range []string{"r", "s"} {
			if holds {
				sees(t, where, d, role, made(7), num(5), sym("blue"))
			} else {
				hides(t, where, api.OK, d, role, made(7))
			}
		}
		sees(t, "another type", d, "r", ofB(7), num(6))
		hides(t, "another state", api.OK, d, "s", made(7, in("mid")))
	}
	d := read(t, full+"role r { sees a(n) where k > 0 && n / k > 1; }")
	for _, c := range []struct {
		k, n int64
		seen bool
	}{{0, 5, false}, {1, 5, true}, {2, 5, true}, {3, 5, false}, {1, 1, false}, {1, 2, true}, {-1, -5, false}, {math.MinInt64, 5, false}, {math.MaxInt64, math.MaxInt64, false}, {1, math.MaxInt64, true}} {
		x := made(7, with(0, num(c.k)), with(1, num(c.n)))
		if c.seen {
			sees(t, "a quotient", d, "r", x, num(c.n))
		} else {
			hides(t, "a quotient", api.OK, d, "r", x)
		}
	}
}

// notValues are values that are not valid, among them such as would be, but for
// another field, of each Kind.
func notValues() []api.Value {
	return []api.Value{
		flag(2), flag(-1), text(strings.Repeat("t", api.MaxText+1)), sym(""), sym("1"), sym(strings.Repeat("s", api.MaxName+1)), list(make([]int64, api.MaxList+1)...), {Kind: 6}, {Kind: -1}, {Kind: math.MinInt}, {Num: 1}, {Text: "t"}, {List: []int64{1}},
		{Kind: api.Int, Num: 1, Text: "1"}, {Kind: api.Int, Num: 5, List: []int64{5}}, {Kind: api.Bool, Num: 1, Text: "true"}, {Kind: api.Text, Text: "t", Num: 1}, {Kind: api.Sym, Text: "blue", Num: 1}, {Kind: api.List, List: []int64{1, 2}, Text: "l"},
	}
}

// TestMissing: P22.1, a value that is not valid, or of another Kind, counts as
// missing where a Where needs it, and for nothing where none does.
func TestMissing(t *testing.T) {
	names := []string{"k", "n", "f", "t", "c", "l"}
	wheres := []string{"k == 1", "n == 5", "f", "t == \"t\"", "c == 'blue", "l == [1, 2]"}
	whole := made(7).Attrs
	for _, v := range append(notValues(), api.Value{}) {
		want(t, "valid", value.Right(v), v.Kind == api.None && v.Num == 0 && v.Text == "" && v.List == nil)
		for i := range names {
			x := made(7, with(i, v))
			for j, where := range wheres {
				d := read(t, full+"role r { sees a where "+where+"; } role s { sees a where true || "+where+"; } role u { sees a(k, n, f, t, c, l) where "+where+"; } role v { sees a where "+where+" || true; }")
				sees(t, "not needed, behind what decides", d, "s", x)
				if i == j {
					hides(t, where, api.OK, d, "r", x)
					hides(t, where+", all seen", api.OK, d, "u", x)
					hides(t, where+", ahead of what decides", api.OK, d, "v", x)
				} else {
					sees(t, where, d, "r", x)
					sees(t, where+", ahead of what decides", d, "v", x)
					sees(t, where+", all seen", d, "u", x, x.Attrs...)
				}
			}
		}
	}
	d := read(t, full+"role r { sees a(k) where f == f; } role s { sees a(k) where c == c; } role u { sees a(k) where !(n == 5); }")
	hides(t, "a bool that is none", api.OK, d, "r", made(7, with(2, flag(2))))
	hides(t, "a symbol that is none", api.OK, d, "s", made(7, with(4, sym("1"))))
	hides(t, "not equal", api.OK, d, "u", made(7, with(1, api.Value{Kind: api.Int, Num: 6, Text: "6"})))
	sees(t, "not equal", d, "u", made(7, with(1, num(6))), whole[0])
}

// TestOtherKinds: P22.1, a value of another Kind than its attribute's is valid;
// a Where that fails of it shows nothing.
func TestOtherKinds(t *testing.T) {
	d := read(t, full+"role r { sees a(k, n) where n == 5; } role s { sees a(n) where f; } role u { sees a(n, c); }")
	for _, v := range row(flag(1), text("5"), sym("n"), list(5)) {
		hides(t, "another Kind", api.OK, d, "r", made(7, with(1, v)))
		sees(t, "another Kind, not needed", d, "s", made(7, with(1, v)), v)
		sees(t, "another Kind, not needed", d, "u", made(7, with(1, v), with(4, num(3))), v, num(3))
	}
	for _, v := range row(num(1), text("true"), sym("true"), list(1)) {
		hides(t, "no Bool", api.OK, d, "s", made(7, with(2, v)))
	}
}

// TestSeenAsItIs: P22.1, a value is seen as it is, also one that is not valid.
func TestSeenAsItIs(t *testing.T) {
	d := read(t, full+roles)
	for i := range 6 {
		for _, v := range append(notValues(), api.Value{}, num(math.MinInt64), text(strings.Repeat("\xff", api.MaxText)), sym("green"), list()) {
			x := made(7, with(i, v))
			sees(t, "as it is", d, "all", x, x.Attrs...)
			sees(t, "as it is", d, "turned", x, x.Attrs[5], x.Attrs[4], x.Attrs[3], x.Attrs[2], x.Attrs[1], x.Attrs[0])
		}
	}
}

// TestUnfit: P22.1, an artifact need not be one that fits.
func TestUnfit(t *testing.T) {
	d := read(t, full+roles)
	for _, id := range []int64{math.MinInt64, -1, 0, 1, math.MaxInt64 - 40} {
		x := made(id)
		x.Since, x.Counts, x.Box = -5, nil, []api.Mail{{}}
		sees(t, "an artifact that does not fit", d, "first", x, num(1), num(5))
	}
	hides(t, "no artifact", api.ErrName, d, "all", api.Item{})
	hides(t, "no values", api.OK, d, "bare", api.Item{Type: "a", State: "new"})
}

// TestHappened: P22.1, the event's own parts, and those of its artifact.
func TestHappened(t *testing.T) {
	d := read(t, full+roles)
	for _, name := range []string{"", "create", "spawn", "go", "none", "\xff\x00", strings.Repeat("e", 9999)} {
		for _, n := range []int64{math.MinInt64, -1, 0, 1, 2, math.MaxInt64} {
			for _, id := range []int64{math.MinInt64, 0, 5, math.MaxInt64} {
				x := made(id, in("mid"))
				e := event(n, name, x)
				for _, e.Tick = range []int64{math.MinInt64, 0, 7, math.MaxInt64} {
					s, seen := Happened(d, "last", e)
					want(t, "seen", seen, true)
					same(t, "an event", s, api.Seen{N: n, Name: name, View: api.View{Item: id, Type: "a", State: "mid", Attrs: row(num(5), num(1))}})
				}
				e.State = "new"
				s, seen := Happened(d, "last", e)
				want(t, "seen", seen, false)
				same(t, "an event", s, api.Seen{})
			}
		}
	}
}
