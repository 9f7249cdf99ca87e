package view

import (
	"math"
	"slices"
	"strings"
	"testing"

	"switchyard/api"
	"switchyard/check"
)

// asks checks what Query answers.
func asks(t *testing.T, what string, d api.Def, role, typ string, items []api.Item, wanted ...api.View) {
	t.Helper()
	l, bad := Query(d, role, typ, items)
	want(t, what, bad, api.OK)
	same(t, what, l, wanted)
}

// refuses checks that Query answers an error, and nothing beside it.
func refuses(t *testing.T, what string, wanted api.Errno, d api.Def, role, typ string, items []api.Item) {
	t.Helper()
	l, bad := Query(d, role, typ, items)
	want(t, what, bad, wanted)
	same(t, what, l, []api.View(nil))
}

// TestHowMany: P22.2, of no items, of one and of several, of other types, seen
// and not.
func TestHowMany(t *testing.T) {
	d := read(t, full+roles)
	x, y, z := made(3), made(1, in("mid"), with(0, num(8))), made(2, in("end"))
	b, c := ofB(5), api.Item{ID: 4, Type: "c", State: "new", Attrs: row(num(4))}
	for _, l := range [][]api.Item{nil, {}, {b}, {c, b}, {b, c, ofB(0)}} {
		for _, role := range []string{"all", "bare", "some"} {
			asks(t, "no items of the type", d, role, "a", l)
		}
	}
	asks(t, "one", d, "first", "a", []api.Item{x}, view(x, num(1), num(5)))
	asks(t, "one that is not seen", d, "first", "a", []api.Item{z})
	asks(t, "one of several types", d, "first", "a", []api.Item{b, x, c}, view(x, num(1), num(5)))
	asks(t, "those that are seen", d, "first", "a", []api.Item{x, y, z}, view(y, num(8), num(5)), view(x, num(1), num(5)))
	asks(t, "those that are seen", d, "last", "a", []api.Item{x, z, b, y, c}, view(y, num(5), num(8)), view(z, num(5), num(1)))
	asks(t, "another type", d, "all", "b", []api.Item{x, z, b, y, c}, view(b, num(1), num(6)))
	asks(t, "another type", d, "all", "c", []api.Item{x, z, b, y, c}, view(c, num(4)))
	asks(t, "a type that is not seen", d, "bare", "b", []api.Item{x, z, b, y, c})
	asks(t, "a role that sees nothing", d, "nobody", "a", []api.Item{x, z, b, y, c})
	asks(t, "items that are not of a type", d, "all", "a", []api.Item{{}, made(1, of("none")), x, made(2, of(""))}, view(x, x.Attrs...))
	asks(t, "one with fewer attributes", d, "bare", "a", []api.Item{made(1, having(num(1))), x, made(2, having())}, view(x))
}

// TestOrder: P22.2, by ascending IDs, whatever their order was.
func TestOrder(t *testing.T) {
	d := read(t, full+roles)
	ids := []int64{-9, 3, math.MinInt64, 0, math.MaxInt64, 7}
	for range len(ids) {
		for range len(ids) - 1 {
			var items []api.Item
			for _, id := range ids {
				items = append(items, made(id, with(1, num(id))))
			}
			var wanted []api.View
			for _, id := range []int64{math.MinInt64, -9, 0, 3, 7, math.MaxInt64} {
				wanted = append(wanted, view(made(id), num(1), num(id)))
			}
			asks(t, "any order", d, "first", "a", items, wanted...)
			ids = slices.Concat(ids[1:len(ids)-1], ids[:1], ids[len(ids)-1:])
		}
		ids = slices.Concat(ids[1:], ids[:1])
	}
}

// TestEqual: P22.2, those of equal IDs in the order that they had, however many
// they are.
func TestEqual(t *testing.T) {
	d := read(t, full+roles)
	for _, n := range []int{2, 3, 11, 12, 13, 50, 200} {
		var items []api.Item
		var low, high, wanted []api.View
		for i := range n {
			x := made(int64(5+i%2), with(0, num(int64(n-i))), with(1, num(int64(i))))
			if i%7 == 3 {
				x.State = "end" // not seen
			} else if i%2 == 0 {
				low = append(low, view(x, num(int64(n-i)), num(int64(i))))
			} else {
				high = append(high, view(x, num(int64(n-i)), num(int64(i))))
			}
			items = append(items, x, ofB(5))
		}
		wanted = append(low, high...)
		asks(t, "equal IDs", d, "first", "a", items, wanted...)
	}
}

// notValid are choreographies like full, each with one fault.
func notValid(t *testing.T) map[string]api.Def {
	out := map[string]api.Def{"nothing": {Enums: []api.Enum{{}}}, "only a role": {Roles: []api.Role{{Name: "all", Sees: []api.Sight{{Type: "a"}}}}}}
	for what, spoil := range map[string]func(d *api.Def){
		"a name that is none":        func(d *api.Def) { d.Enums[0].Name = "1" },
		"two types of one name":      func(d *api.Def) { d.Types[1].Name = "a" },
		"no Key":                     func(d *api.Def) { d.Types[2].Key = nil },
		"no attributes":              func(d *api.Def) { d.Types[0].Attrs = nil },
		"no start":                   func(d *api.Def) { d.Types[0].States[0].Start = false },
		"an enum without Syms":       func(d *api.Def) { d.Enums[0].Syms = nil },
		"a move to nowhere":          func(d *api.Def) { d.Types[1].Moves[0].To = "none" },
		"a channel to nowhere":       func(d *api.Def) { d.Channels = []api.Channel{{Name: "toA"}} },
		"a milestone of no type":     func(d *api.Def) { d.Groups = []api.Group{{Name: "m"}} },
		"two roles of one name":      func(d *api.Def) { d.Roles[0].Name = "all" },
		"a role of no name":          func(d *api.Def) { d.Roles[0].Name = "" },
		"too many roles":             func(d *api.Def) { d.Roles = append(d.Roles, make([]api.Role, 16)...) },
		"a sight of no type":         func(d *api.Def) { d.Roles[1].Sees[2].Type = "none" },
		"two sights of one type":     func(d *api.Def) { d.Roles[1].Sees[2].Type = "b" },
		"a sight of no attribute":    func(d *api.Def) { d.Roles[1].Sees[0].Attrs[0] = "none" },
		"a sight of an attribute x2": func(d *api.Def) { d.Roles[1].Sees[0].Attrs[0] = "n" },
		"a sight in no state":        func(d *api.Def) { d.Roles[5].Sees[0].States[0] = "none" },
		"a sight in a state x2":      func(d *api.Def) { d.Roles[5].Sees[0].States[0] = "mid" },
		"a sight where a number":     func(d *api.Def) { d.Roles[1].Sees[1].Where = api.Expr{Op: api.OpInt} },
		"a sight where what is not":  func(d *api.Def) { d.Roles[7].Sees[0].Where.Text = "none" },
		"a sight where no tree":      func(d *api.Def) { d.Roles[7].Sees[0].Where.Op = math.MinInt },
		"a right of no type":         func(d *api.Def) { d.Roles[1].May[0].Type = "none" },
		"a right to no move":         func(d *api.Def) { d.Roles[1].May[1].Move = "none" },
		"a right to a move on":       func(d *api.Def) { d.Roles[1].May[1].Move = "take" },
		"a right twice":              func(d *api.Def) { d.Roles[1].May[1].Move = "" },
	} {
		d := read(t, full+roles)
		spoil(&d)
		out[what] = d
	}
	for what, d := range out {
		want(t, "valid with "+what, check.Check(d) == api.OK, false)
	}
	return out
}

// TestNoDef: a choreography that is not valid has no views and no rights.
func TestNoDef(t *testing.T) {
	for what, d := range notValid(t) {
		for _, role := range []string{"all", "some", "bare", "nobody", "none", ""} {
			for _, x := range []api.Item{made(7), ofB(8), {ID: 9, Type: "c", State: "new", Attrs: row(num(4))}, made(7, of("none")), {}} {
				hides(t, what, api.ErrNoDef, d, role, x)
			}
			for _, typ := range []string{"a", "b", "c", "none", ""} {
				refuses(t, what, api.ErrNoDef, d, role, typ, nil)
				for _, move := range []string{"", "go", "back", "on", "take", "none"} {
					want(t, what+": may "+role+" "+typ+" "+move, May(d, role, typ, move), false)
				}
			}
		}
	}
}

// TestErrors: P22.2, each error of Query alone, and both.
func TestErrors(t *testing.T) {
	d := read(t, full+roles)
	for _, items := range [][]api.Item{nil, {made(1)}, {made(2), ofB(1), {}, made(1, of("none"))}} {
		for _, no := range []string{"", "none", "A", "a ", "All", "new", "color", "\xff", strings.Repeat("n", 9999)} {
			for _, role := range []string{"all", "some", "bare", "nobody"} {
				refuses(t, "no type", api.ErrName, d, role, no, items)
			}
			for _, typ := range []string{"a", "b", "c"} {
				refuses(t, "no role", api.ErrRole, d, no, typ, items)
			}
			refuses(t, "neither", api.ErrRole, d, no, "none", items)
			refuses(t, "neither", api.ErrRole, d, "none", no, items)
			refuses(t, "nothing", api.ErrRole, api.Def{}, no, no, items)
		}
	}
}

// TestMay: P22.2, each right that a role has, and each that it hasn't.
func TestMay(t *testing.T) {
	d := read(t, full+roles)
	has := map[string]string{
		"all": "|a.|a.go|a.back|b.|b.go|b.on|c.|", "turned": "|", "some": "|a.go|b.|", "bare": "|a.back|", "first": "|b.on|", "last": "|c.|", "only": "|a.|", "nobody": "|", "none": "|", "": "|", "All": "|",
	}
	for role, rights := range has {
		for _, typ := range []string{"a", "b", "c", "none", "", "A", "a ", "\xff"} {
			for _, move := range []string{"", "go", "back", "on", "take", "none", "Go", "go ", "a", "\xff"} {
				want(t, role+" may "+typ+"."+move, May(d, role, typ, move), strings.Contains(rights, "|"+typ+"."+move+"|"))
			}
		}
	}
	want(t, "nothing", May(api.Def{}, "", "", ""), false)
}
