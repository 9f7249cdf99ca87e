package item

import (
	"math"
	"slices"
	"strconv"
	"testing"

	"switchyard/api"
)

// The values that artifacts of full's types may have.

func valsOfA() []api.Value {
	return row(num(-5), sym("blue"), num(9), flag(1), text("x\x00"), list(3, -4), sym("small"))
}

func valsOfZ() []api.Value {
	return row(text("key"), text(""), flag(0))
}

// times are such that an artifact may have been made, and other numbers.
var (
	times    = []int64{0, 1, 77, api.MaxTime - 1, api.MaxTime}
	notTimes = []int64{-1, api.MaxTime + 1, math.MinInt64, math.MaxInt64}
	ids      = []int64{7, 0, 1, -1, math.MinInt64, math.MaxInt64}
)

// fails checks that New or Spawn answers an error, and nothing beside it.
func fails(t *testing.T, what string, x api.Item, bad, wanted api.Errno) {
	t.Helper()
	want(t, what, bad, wanted)
	same(t, what, x, api.Item{})
}

// TestNew: P14.2, what an artifact is at first.
func TestNew(t *testing.T) {
	d := read(t, full)
	for _, now := range times {
		for _, id := range ids {
			x, bad := New(d, "a", id, now, valsOfA()...)
			want(t, "New of a", bad, api.OK)
			same(t, "New of a", x, api.Item{ID: id, Type: "a", State: "one", Since: now, Attrs: valsOfA(), Counts: []int{0, 0, 0, 0}})
			x, bad = New(d, "z", id, now, valsOfZ()...)
			want(t, "New of z", bad, api.OK)
			same(t, "New of z", x, api.Item{ID: id, Type: "z", State: "s", Since: now, Attrs: valsOfZ(), Counts: []int{0, 0}})
		}
	}
	one := read(t, "artifact a { attr k int; key k; state s start; }")
	x, bad := New(one, "a", 1, 2, num(3))
	want(t, "New without ports", bad, api.OK)
	same(t, "New without ports", x, api.Item{ID: 1, Type: "a", State: "s", Since: 2, Attrs: row(num(3))})
}

// TestSpawn: P14.2, the Key in its order; the rest is Zero.
func TestSpawn(t *testing.T) {
	d := read(t, full)
	for _, now := range times {
		for _, id := range ids {
			x, bad := Spawn(d, "a", id, now, num(9), sym("blue"))
			want(t, "Spawn of a", bad, api.OK)
			attrs := row(num(0), sym("blue"), num(9), flag(0), text(""), list(), sym("big"))
			same(t, "Spawn of a", x, api.Item{ID: id, Type: "a", State: "one", Since: now, Attrs: attrs, Counts: []int{0, 0, 0, 0}})
			x, bad = Spawn(d, "z", id, now, text("y"))
			want(t, "Spawn of z", bad, api.OK)
			same(t, "Spawn of z", x, api.Item{ID: id, Type: "z", State: "s", Since: now, Attrs: row(text("y"), text(""), flag(0)), Counts: []int{0, 0}})
		}
	}
}

// making is New or Spawn, and values that it takes for a type.
type making struct {
	name string
	make func(d api.Def, typ string, id, now int64, vals ...api.Value) (api.Item, api.Errno)
	typ  string
	vals []api.Value
}

func makings() []making {
	return []making{
		{"New of a", New, "a", valsOfA()}, {"New of z", New, "z", valsOfZ()},
		{"Spawn of a", Spawn, "a", row(num(9), sym("blue"))}, {"Spawn of z", Spawn, "z", row(text("y"))},
	}
}

// unfit are the values with one that does not fit in its place.
func unfit(vals []api.Value) [][]api.Value {
	var out [][]api.Value
	for i, v := range vals {
		others := append(notRight(), api.Value{}, sym("green"), sym("Red"))
		for kind := range 6 {
			if kind != v.Kind {
				others = append(others, validOf(kind)[0])
			}
		}
		for _, other := range others {
			l := slices.Clone(vals)
			l[i] = other
			out = append(out, l)
		}
	}
	return out
}

// TestMakingFails: P14.2, each error of New and Spawn alone.
func TestMakingFails(t *testing.T) {
	d := read(t, full)
	for _, m := range makings() {
		for what, broken := range notValid(t) {
			x, bad := m.make(broken, m.typ, 1, 0, m.vals...)
			fails(t, m.name+" with "+what, x, bad, api.ErrNoDef)
		}
		for _, typ := range []string{"", "none", "A", "a ", "aa", "color", "c1", "one"} {
			x, bad := m.make(d, typ, 1, 0, m.vals...)
			fails(t, m.name+": no type "+strconv.Quote(typ), x, bad, api.ErrName)
		}
		for _, now := range notTimes {
			x, bad := m.make(d, m.typ, 1, now, m.vals...)
			fails(t, m.name+": at "+strconv.FormatInt(now, 10), x, bad, api.ErrArg)
		}
		n := len(m.vals)
		for _, l := range [][]api.Value{nil, {}, m.vals[:n-1], m.vals[1:], append(slices.Clone(m.vals), m.vals[0]), append(slices.Clone(m.vals), api.Value{}), slices.Repeat(m.vals, 2), slices.Repeat(m.vals, 1000)} {
			if len(l) == n {
				continue
			}
			x, bad := m.make(d, m.typ, 1, 0, l...)
			fails(t, m.name+": values "+strconv.Itoa(len(l)), x, bad, api.ErrArg)
		}
		for _, l := range unfit(m.vals) {
			x, bad := m.make(d, m.typ, 1, 0, l...)
			fails(t, m.name+": a value that does not fit", x, bad, api.ErrKind)
		}
	}
}

// TestMakingOrder: P14.2, the first of several errors counts.
func TestMakingOrder(t *testing.T) {
	d, broken := read(t, full), notValid(t)["no start"]
	for _, m := range makings() {
		wrong := unfit(m.vals)[0]
		for _, typ := range []string{m.typ, "none"} {
			for _, now := range []int64{0, -1} {
				for _, l := range [][]api.Value{m.vals, wrong, append(wrong, wrong...), nil} {
					x, bad := m.make(broken, typ, 1, now, l...)
					fails(t, m.name+": no choreography", x, bad, api.ErrNoDef)
					x, bad = m.make(d, typ, 1, now, l...)
					switch {
					case typ == "none":
						fails(t, m.name+": no type", x, bad, api.ErrName)
					case now < 0:
						fails(t, m.name+": no time", x, bad, api.ErrArg)
					case len(l) != len(m.vals):
						fails(t, m.name+": values", x, bad, api.ErrArg)
					case &l[0] == &wrong[0]:
						fails(t, m.name+": unfit", x, bad, api.ErrKind)
					default:
						want(t, m.name, bad, api.OK)
					}
				}
			}
		}
	}
}

// TestMakingOfNothing: P14.2, an empty choreography is valid, but has no types.
func TestMakingOfNothing(t *testing.T) {
	for _, make := range []func(d api.Def, typ string, id, now int64, vals ...api.Value) (api.Item, api.Errno){New, Spawn} {
		x, bad := make(api.Def{}, "", 0, 0)
		fails(t, "of nothing", x, bad, api.ErrName)
		x, bad = make(api.Def{Types: []api.Type{{}}}, "", 0, 0)
		fails(t, "of no choreography", x, bad, api.ErrNoDef)
		x, bad = make(api.Def{Types: []api.Type{{Name: "a"}}}, "a", 0, 0)
		fails(t, "of no choreography", x, bad, api.ErrNoDef)
	}
}
