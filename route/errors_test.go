package route

import (
	"math"
	"strings"
	"testing"

	"switchyard/api"
	"switchyard/check"
	"switchyard/index"
)

// notValid are choreographies like full, each with one fault.
func notValid(t *testing.T) map[string]api.Def {
	out := map[string]api.Def{"nothing": {Enums: []api.Enum{{}}}}
	for what, spoil := range map[string]func(d *api.Def){
		"a name that is none":    func(d *api.Def) { d.Enums[0].Name = "1" },
		"two types of one name":  func(d *api.Def) { d.Types[2].Name = "a" },
		"no Key":                 func(d *api.Def) { d.Types[0].Key = nil },
		"a Key of no attribute":  func(d *api.Def) { d.Types[0].Key[1] = "none" },
		"a Key with a name more": func(d *api.Def) { d.Types[0].Key = append(d.Types[0].Key, "n") },
		"an enum without Syms":   func(d *api.Def) { d.Enums[0].Syms = nil },
		"no start":               func(d *api.Def) { d.Types[0].States[1].Start = false },
		"a channel to nowhere":   func(d *api.Def) { d.Channels[0].To = "none" },
		"Low above High":         func(d *api.Def) { d.Channels[0].Low = 2 },
		"a High of 0":            func(d *api.Def) { d.Channels[4].High = 0 },
		"two channels of a name": func(d *api.Def) { d.Channels[1].Name = "c11" },
		"a milestone of none":    func(d *api.Def) { d.Groups = []api.Group{{Name: "m"}} },
	} {
		d := read(t, full)
		spoil(&d)
		out[what] = d
	}
	for what, d := range out {
		want(t, "valid with "+what, check.Check(d) == api.OK, false)
	}
	return out
}

// TestErrors: P17.2, each error alone, and each with each of those behind it.
func TestErrors(t *testing.T) {
	d := read(t, full)
	items := some(1)
	x := living(d, items)
	for _, c := range []struct {
		channel string
		key     []api.Value
		bad     api.Errno
	}{
		{"c11", redOne(), api.OK},
		{"none", redOne(), api.ErrName}, {"", redOne(), api.ErrName}, {"a", redOne(), api.ErrName}, {"i", redOne(), api.ErrName}, {"C11", redOne(), api.ErrName}, {"c11 ", redOne(), api.ErrName}, {strings.Repeat("c", 9999), redOne(), api.ErrName},
		{"none", nil, api.ErrName}, {"none", row(num(1), num(1)), api.ErrName}, {"none", row(num(1)), api.ErrName},
		{"c11", nil, api.ErrArg}, {"c11", row(sym("red")), api.ErrArg}, {"c11", row(sym("red"), num(1), list()), api.ErrArg}, {"c11", make([]api.Value, 1000), api.ErrArg}, {"toZ", redOne(), api.ErrArg}, {"toZ", nil, api.ErrArg},
		{"c11", row(num(1)), api.ErrArg}, {"c11", row(num(1), num(1), num(1)), api.ErrArg},
		{"c11", row(num(1), sym("red")), api.ErrKind}, {"c11", row(num(1), num(1)), api.ErrKind}, {"c11", row(sym("red"), sym("red")), api.ErrKind}, {"c11", row(sym("green"), num(1)), api.ErrKind}, {"c11", row(sym(""), num(1)), api.ErrKind},
		{"c11", make([]api.Value, 2), api.ErrKind}, {"c11", row(sym("red"), api.Value{}), api.ErrKind}, {"c11", row(sym("red"), api.Value{Kind: api.Int, Num: 1, Text: "1"}), api.ErrKind}, {"c11", row(api.Value{Kind: api.Sym, Text: "red", Num: 1}, num(1)), api.ErrKind},
		{"c11", row(sym("red"), api.Value{Kind: api.Bool, Num: 1}), api.ErrKind}, {"c11", row(sym("red"), list(1)), api.ErrKind}, {"c11", row(api.Value{Kind: api.Text, Text: "red"}, num(1)), api.ErrKind}, {"c11", row(api.Value{Kind: 6}, api.Value{Kind: math.MinInt}), api.ErrKind},
		{"toZ", row(num(1)), api.ErrKind}, {"toZ", row(list(make([]int64, 17)...)), api.ErrKind}, {"toZ", row(api.Value{Kind: api.List, Num: 1}), api.ErrKind},
	} {
		wanted := fails(c.bad)
		if c.bad == api.OK {
			wanted = goes(0)
		}
		same(t, c.channel+" (Pick)", pick(d, x, c.channel, c.key...), wanted)
		same(t, c.channel+" (Over)", over(d, items, c.channel, c.key...), wanted)
		same(t, c.channel+" without an index", pick(d, nil, c.channel, c.key...), fails(api.ErrNil))
		if c.bad != api.OK {
			same(t, c.channel+" (Pick of none)", pick(d, index.New(d), c.channel, c.key...), wanted)
			same(t, c.channel+" (Over nothing)", over(d, nil, c.channel, c.key...), wanted)
		}
	}
	for what, d := range notValid(t) {
		for _, channel := range []string{"c11", "c02", "none", ""} {
			for _, key := range [][]api.Value{redOne(), nil, row(num(1), num(1))} {
				same(t, what+" (Pick)", pick(d, x, channel, key...), fails(api.ErrNoDef))
				same(t, what+" (Pick by its own)", pick(d, living(d, items), channel, key...), fails(api.ErrNoDef))
				same(t, what+" without an index", pick(d, nil, channel, key...), fails(api.ErrNoDef))
				same(t, what+" (Over)", over(d, items, channel, key...), fails(api.ErrNoDef))
				same(t, what+" (Over nothing)", over(d, nil, channel, key...), fails(api.ErrNoDef))
			}
		}
	}
}

// TestNoDef: a choreography of nothing is valid, but has no channel.
func TestNoDef(t *testing.T) {
	same(t, "Pick", pick(api.Def{}, index.New(api.Def{}), "c"), fails(api.ErrName))
	same(t, "Pick without an index", pick(api.Def{}, nil, "c"), fails(api.ErrNil))
	same(t, "Over", over(api.Def{}, some(2), ""), fails(api.ErrName))
}
