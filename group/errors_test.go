package group

import (
	"math"
	"slices"
	"strings"
	"testing"

	"switchyard/api"
	"switchyard/check"
	"switchyard/item"
)

// notValid are choreographies like full, each with one fault.
func notValid(t *testing.T) map[string]api.Def {
	out := map[string]api.Def{"nothing": {Enums: []api.Enum{{}}}, "only a milestone": {Groups: []api.Group{{Name: "close"}}}}
	for what, spoil := range map[string]func(d *api.Def){
		"a name that is none":          func(d *api.Def) { d.Enums[0].Name = "1" },
		"two types of one name":        func(d *api.Def) { d.Types[1].Name = "a" },
		"no Key":                       func(d *api.Def) { d.Types[0].Key = nil },
		"no attributes":                func(d *api.Def) { d.Types[0].Attrs = nil },
		"an enum without Syms":         func(d *api.Def) { d.Enums[0].Syms = nil },
		"no start":                     func(d *api.Def) { d.Types[0].States[1].Start = false },
		"Min above Max":                func(d *api.Def) { d.Types[0].Ports[1].Min = 4 },
		"a channel to nowhere":         func(d *api.Def) { d.Channels[0].To = "none" },
		"a milestone of no type":       func(d *api.Def) { d.Groups[11].Type = "none" },
		"a milestone by nothing":       func(d *api.Def) { d.Groups[11].By = "none" },
		"a milestone to nowhere":       func(d *api.Def) { d.Groups[11].To = "none" },
		"a milestone from nowhere":     func(d *api.Def) { d.Groups[11].State = "none" },
		"a milestone from the end":     func(d *api.Def) { d.Groups[11].State = "end" },
		"a milestone of none":          func(d *api.Def) { d.Groups[11].Low = 0 },
		"a milestone of too many":      func(d *api.Def) { d.Groups[11].High = api.MaxCount + 1 },
		"a milestone when a number":    func(d *api.Def) { d.Groups[11].When = api.Expr{Op: api.OpInt} },
		"a milestone when what is not": func(d *api.Def) { d.Groups[11].When = api.Expr{Op: api.OpAttr, Text: "none"} },
		"a milestone when no tree":     func(d *api.Def) { d.Groups[11].When = api.Expr{Op: math.MinInt} },
		"a name twice":                 func(d *api.Def) { d.Groups[11].Name = d.Groups[0].Name },
		"too many milestones":          func(d *api.Def) { d.Groups = append(d.Groups, make([]api.Group, 9)...) },
		"a role that sees nothing":     func(d *api.Def) { d.Roles = []api.Role{{Name: "r", Sees: []api.Sight{{Type: "none"}}}} },
	} {
		d := read(t, full)
		spoil(&d)
		out[what] = d
	}
	for what, d := range out {
		want(t, "valid with "+what, check.Check(d) == api.OK, false)
	}
	return out
}

// call is all that Gather is given.
type call struct {
	d     api.Def
	items []api.Item
	name  string
	v     api.Value
	now   int64
}

// fault is what makes a call that is OK fail.
type fault struct {
	what string
	do   func(c *call)
	bad  api.Errno
}

// good is a call of close that is OK.
func good(t *testing.T) call {
	return call{read(t, full), append(some(3, 1, 2), ofB(4), made(5, in("end")), made(6, with(1, num(6)))), "close", num(5), 9}
}

// plus adds artifacts at the end.
func plus(l ...api.Item) func(c *call) {
	return func(c *call) { c.items = append(slices.Clone(c.items), l...) }
}

// ahead adds artifacts at the beginning.
func ahead(l ...api.Item) func(c *call) {
	return func(c *call) { c.items = append(slices.Clone(l), c.items...) }
}

// unfit are artifacts that do not fit, each for one reason, by the error.
func unfit() map[api.Errno][]api.Item {
	return map[api.Errno][]api.Item{
		api.ErrName:  {{}, made(50, func(x *api.Item) { x.Type = "none" }), made(50, func(x *api.Item) { x.Type = "" })},
		api.ErrState: {made(50, in("old")), made(50, in("")), ofB(50, in("fin")), made(50, func(x *api.Item) { x.Since = -1 }), made(50, func(x *api.Item) { x.Since = api.MaxTime + 1 })},
		api.ErrKind: {
			made(50, with(1, flag(1))), made(50, with(1, api.Value{})), made(50, with(4, sym("big"))), made(50, func(x *api.Item) { x.Attrs = x.Attrs[:1] }), made(50, func(x *api.Item) { x.Attrs = nil }),
			ofB(50, with(1, text(""))), made(50, in("end"), with(6, num(0))), made(50, func(x *api.Item) { x.Attrs = append(x.Attrs, num(1)) }),
		},
		api.ErrCount: {made(50, counting(0, 4, 0, 0)), made(50, counting()), made(50, counting(0, 0, 0)), made(50, counting(-1, 0, 0, 0)), made(50, in("end"), counting(0, 0, 0, 2)), ofB(50, counting(0, 0, 0))},
		api.ErrForm:  {made(50, func(x *api.Item) { x.Box = []api.Mail{{}} }), made(50, func(x *api.Item) { x.Box[0].Channel = "toB" }), made(50, func(x *api.Item) { x.State = "end" }), made(50, func(x *api.Item) { x.Box[0].Key = nil })},
	}
}

// faults are those that a call may have, by their rank: a call with several
// answers the error of one whose rank is the lowest.
func faults(t *testing.T) [][]fault {
	out := make([][]fault, 8)
	put := func(rank int, what string, bad api.Errno, do func(c *call)) {
		out[rank] = append(out[rank], fault{what, do, bad})
	}
	for what, d := range notValid(t) {
		put(0, what, api.ErrNoDef, func(c *call) { c.d = d })
	}
	for _, name := range []string{"none", "", "a", "n", "Close", "close ", "clos", "\xff", strings.Repeat("c", 9999)} {
		put(1, "no group "+name[:min(9, len(name))], api.ErrName, func(c *call) { c.name = name })
	}
	for _, v := range []api.Value{{}, flag(1), flag(0), text("5"), sym("red"), list(5), {Kind: api.Int, Num: 5, Text: "5"}, {Kind: api.Int, Num: 5, List: []int64{5}}, {Kind: 6, Num: 5}, {Kind: math.MinInt}, {Kind: -api.Int, Num: 5}} {
		put(2, "a value that does not fit", api.ErrKind, func(c *call) { c.v = v })
	}
	for bad, l := range unfit() {
		for _, x := range l {
			put(3, "an artifact that does not fit", bad, plus(x))
			put(3, "an artifact that does not fit, ahead of all", bad, ahead(x))
		}
	}
	for _, x := range []api.Item{made(1), made(2), made(3, in("end")), ofB(3), ofB(4), made(4), made(5), ofB(5), made(6, with(1, num(7)))} {
		put(4, "an ID twice", api.ErrTwice, plus(x))
		put(4, "an ID twice, ahead of all", api.ErrTwice, ahead(x))
	}
	put(4, "an ID of others twice", api.ErrTwice, plus(ofB(9), ofB(9)))
	for _, now := range notTimes {
		put(5, "no time", api.ErrArg, func(c *call) { c.now = now })
	}
	put(6, "too many", api.ErrCount, plus(some(30)...))
	put(6, "far too many, that may not move", api.ErrCount, ahead(made(-20, in("mid")), made(-21, with(0, num(0))), made(-22)))
	for _, h := range hurdles() {
		for i := range 3 {
			put(7, h.what, h.bad, func(c *call) {
				c.items = slices.Clone(c.items)
				c.items[i] = item.Twin(c.items[i])
				h.do(&c.items[i])
			})
		}
	}
	return out
}

// spoiled is a call with some faults, by ascending ranks. The last one comes
// first, as it may change artifacts at their places.
func spoiled(c call, l ...fault) (call, string) {
	what := ""
	for _, f := range slices.Backward(l) {
		f.do(&c)
		what = f.what + "; " + what
	}
	return c, what
}

// fails checks that a call answers an error. Members knows of the first five
// ranks.
func (c call) fails(t *testing.T, what string, rank int, bad api.Errno) {
	t.Helper()
	if rank < 5 {
		fails(t, what, bad, c.d, c.items, c.name, c.v, c.now)
	} else {
		stays(t, what, bad, c.d, c.items, c.name, c.v, c.now)
		if _, bad := Members(c.d, c.items, c.name, c.v); bad != api.OK {
			t.Errorf("%s (Members): got %v", what, bad)
		}
	}
}

// TestErrors: P21.1 and P21.2, each error alone, and each two of them together.
func TestErrors(t *testing.T) {
	c := good(t)
	has(t, "a good call", c.d, c.items, c.name, c.v, 1, 2, 3)
	gathers(t, "a good call", c.d, c.items, c.name, c.v, c.now, moved(some(1, 2, 3), "end", 9)...)
	all := faults(t)
	for rank, l := range all {
		for _, f := range l {
			c, what := spoiled(good(t), f)
			c.fails(t, what, rank, f.bad)
			for _, later := range all[rank+1:] {
				for _, g := range later {
					c, what := spoiled(good(t), f, g)
					c.fails(t, what, rank, f.bad)
				}
			}
		}
	}
}

// TestThreeErrors: P21.1 and P21.2, each three of them together, and all.
func TestThreeErrors(t *testing.T) {
	all := faults(t)
	var firsts []fault
	for _, l := range all {
		firsts = append(firsts, l[0])
	}
	for i := range firsts {
		c, what := spoiled(good(t), firsts[i:]...)
		c.fails(t, what, i, firsts[i].bad)
		for j := range firsts[:i] {
			for k := range firsts[:j] {
				c, what := spoiled(good(t), firsts[k], firsts[j], firsts[i])
				c.fails(t, what, k, firsts[k].bad)
			}
		}
	}
}

// TestFirstUnfit: P21.1, of several artifacts that do not fit the first one
// counts, as they were handed in, whatever their IDs.
func TestFirstUnfit(t *testing.T) {
	d := read(t, full)
	all := unfit()
	for first, l := range all {
		for _, more := range all {
			for _, x := range l {
				for _, y := range more {
					for _, id := range []int64{-9, 50, 99} {
						y.ID = id
						fails(t, "two that do not fit", first, d, []api.Item{made(1), x, made(2), y}, "close", num(5), 9)
						fails(t, "two that do not fit", first, d, []api.Item{x, y, made(1), made(2)}, "close", num(5), 9)
					}
				}
			}
		}
	}
}

// TestEnums: P21.1, a symbol of another enum fits no attribute.
func TestEnums(t *testing.T) {
	d := read(t, full)
	for _, c := range []struct {
		name, sym string
		bad       api.Errno
	}{
		{"byC", "red", api.OK}, {"byC", "blue", api.OK}, {"byC", "big", api.ErrKind}, {"byC", "", api.ErrKind}, {"byC", "Red", api.ErrKind}, {"byC", "color", api.ErrKind},
		{"byE", "red", api.OK}, {"byE", "big", api.OK}, {"byE", "blue", api.ErrKind}, {"byN", "red", api.ErrKind}, {"byT", "red", api.ErrKind}, {"byL", "red", api.ErrKind}, {"byF", "red", api.ErrKind},
	} {
		if c.bad != api.OK {
			fails(t, c.name, c.bad, d, some(1, 2), c.name, sym(c.sym), 9)
			continue
		}
		_, bad := Members(d, some(1, 2), c.name, sym(c.sym))
		want(t, c.name, bad, api.OK)
	}
	for name, kind := range map[string]int{"byN": api.Int, "byF": api.Bool, "byT": api.Text, "byC": api.Sym, "byE": api.Sym, "byL": api.List} {
		for _, v := range row(num(0), flag(0), text(""), sym("red"), list(), api.Value{}) {
			if v.Kind != kind {
				fails(t, name, api.ErrKind, d, some(1, 2), name, v, 9)
			}
		}
	}
	for name, v := range map[string]api.Value{
		"byF": flag(2), "byT": text(strings.Repeat("t", api.MaxText+1)), "byL": list(make([]int64, api.MaxList+1)...), "byC": {Kind: api.Sym, Text: "red", Num: 1}, "byN": {Kind: api.Int, Text: "1"}, "byE": {Kind: api.Sym, Text: "red", List: []int64{1}},
	} {
		fails(t, name, api.ErrKind, d, some(1, 2), name, v, 9)
	}
}

// TestNoDef: a choreography of nothing is valid, but has no milestone.
func TestNoDef(t *testing.T) {
	fails(t, "no group", api.ErrName, api.Def{}, nil, "", api.Value{}, 0)
	fails(t, "no group", api.ErrName, api.Def{}, some(1), "close", num(5), 9)
}
