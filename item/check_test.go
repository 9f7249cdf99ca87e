package item

import (
	"math"
	"slices"
	"testing"

	"switchyard/api"
)

// messages are such that a Box of an a may have, one for each channel to it.
func messages() []api.Mail {
	return []api.Mail{
		{ID: 3, Channel: "c1", Key: row(num(1), sym("red")), Fields: row(text("w"))},
		{ID: -1, Channel: "c2", Key: row(num(-2), sym("blue")), Fields: row(list(1), sym("small"), num(4))},
		{Channel: "c3", Key: row(num(9), sym("blue")), Fields: row(list(), sym("blue"), num(math.MinInt64))},
		{ID: math.MaxInt64, Channel: "c1", Key: row(num(8), sym("blue")), Fields: row(text(""))},
	}
}

// live is an artifact of full that fits, as is done, which is not live.
func live() api.Item {
	return api.Item{ID: 5, Type: "a", State: "two", Since: 9, Attrs: valsOfA(), Counts: []int{2, 0, 1, 1000}, Box: messages()}
}

func done() api.Item {
	return api.Item{ID: 5, Type: "a", State: "end", Since: 9, Attrs: valsOfA(), Counts: []int{0, 1, 0, 2}}
}

// lies checks what Check and Lies say of an artifact of full.
func lies(t *testing.T, what string, d api.Def, x api.Item, wanted api.Errno) {
	t.Helper()
	want(t, what, Check(d, x), wanted)
	want(t, what+" (Lies)", Lies(d, x), wanted)
}

// TestCheckFits: P14.3, artifacts that fit, at the edges of what they may be.
func TestCheckFits(t *testing.T) {
	d := read(t, full)
	for what, change := range map[string]func(x *api.Item){
		"as it is":            func(x *api.Item) {},
		"another live state":  func(x *api.Item) { x.State = "one" },
		"at first":            func(x *api.Item) { x.Since = 0 },
		"at last":             func(x *api.Item) { x.Since = api.MaxTime },
		"no number":           func(x *api.Item) { x.ID = 0 },
		"a number below 0":    func(x *api.Item) { x.ID = math.MinInt64 },
		"counters of 0":       func(x *api.Item) { x.Counts = []int{0, 0, 0, 0} },
		"counters at Max":     func(x *api.Item) { x.Counts = []int{2, 3, 1, 1000} },
		"no Box":              func(x *api.Item) { x.Box = nil },
		"an empty Box":        func(x *api.Item) { x.Box = x.Box[:0] },
		"a message twice":     func(x *api.Item) { x.Box = append(x.Box, x.Box...) },
		"a great Box":         func(x *api.Item) { x.Box = slices.Repeat(x.Box[:1], 2*api.MaxBound) },
		"Zero":                func(x *api.Item) { *x, _ = Spawn(d, "a", 1, 0, num(0), sym("red")) },
		"another type":        func(x *api.Item) { *x, _ = New(d, "z", 1, 0, valsOfZ()...) },
		"the end":             func(x *api.Item) { *x = done() },
		"the end, at Max":     func(x *api.Item) { *x = done(); x.Counts = []int{2, 3, 1, 1000} },
		"the end, an no Box":  func(x *api.Item) { *x = done(); x.Box = []api.Mail{} },
		"the end of no ports": func(x *api.Item) { *x, _ = New(d, "z", 1, 0, valsOfZ()...); x.State = "e" },
	} {
		x := live()
		change(&x)
		lies(t, what, d, x, api.OK)
	}
}

// flaw is something that makes an artifact not fit.
type flaw struct {
	what string
	bad  api.Errno
	do   func(x *api.Item)
}

// flaws are those of an artifact that is live.
func flaws() []flaw {
	out := []flaw{
		{"no type", api.ErrName, func(x *api.Item) { x.Type = "" }},
		{"an unknown type", api.ErrName, func(x *api.Item) { x.Type = "none" }},
		{"an enum as type", api.ErrName, func(x *api.Item) { x.Type = "color" }},
		{"no state", api.ErrState, func(x *api.Item) { x.State = "" }},
		{"an unknown state", api.ErrState, func(x *api.Item) { x.State = "none" }},
		{"another type's state", api.ErrState, func(x *api.Item) { x.State = "s" }},
		{"an Attr too few", api.ErrKind, func(x *api.Item) { x.Attrs = x.Attrs[:6] }},
		{"an Attr too many", api.ErrKind, func(x *api.Item) { x.Attrs = append(x.Attrs, num(1)) }},
		{"a None too many", api.ErrKind, func(x *api.Item) { x.Attrs = append(x.Attrs, api.Value{}) }},
		{"no Attrs", api.ErrKind, func(x *api.Item) { x.Attrs = nil }},
		{"two Attrs swapped", api.ErrKind, func(x *api.Item) { x.Attrs[3], x.Attrs[4] = x.Attrs[4], x.Attrs[3] }},
		{"a Count too few", api.ErrCount, func(x *api.Item) { x.Counts = x.Counts[:3] }},
		{"a Count too many", api.ErrCount, func(x *api.Item) { x.Counts = append(x.Counts, 0) }},
		{"no Counts", api.ErrCount, func(x *api.Item) { x.Counts = nil }},
	}
	for _, n := range notTimes {
		out = append(out, flaw{"Since out of range", api.ErrState, func(x *api.Item) { x.Since = n }})
	}
	for _, l := range unfit(valsOfA()) {
		out = append(out, flaw{"an Attr that does not fit", api.ErrKind, func(x *api.Item) { x.Attrs = l }})
	}
	for i, most := range []int{2, 3, 1, 1000} {
		for _, n := range []int{-1, math.MinInt, most + 1, math.MaxInt} {
			out = append(out, flaw{"a Count out of range", api.ErrCount, func(x *api.Item) { x.Counts[i] = n }})
		}
	}
	for _, m := range badMessages() {
		for i := range messages() {
			out = append(out, flaw{"a message that may not be there", api.ErrForm, func(x *api.Item) { x.Box[i] = m }})
		}
	}
	return out
}

// badMessages are such that no Box of an a may have.
func badMessages() []api.Mail {
	out := []api.Mail{{}, {Key: row(num(1), sym("red"))}, {Channel: "c4", Key: row(text("t"))}}
	for _, m := range messages() {
		for _, name := range []string{"", "none", "C1", "c", "a", "c4"} {
			other := m
			other.Channel = name
			out = append(out, other)
		}
		for _, l := range append(unfit(m.Key), nil, m.Key[:1], append(slices.Clone(m.Key), num(1)), append(slices.Clone(m.Key), api.Value{}), row(m.Key[1], m.Key[0])) {
			other := m
			other.Key = l
			out = append(out, other)
		}
		for _, l := range append(unfit(m.Fields), nil, m.Fields[1:], append(slices.Clone(m.Fields), num(1)), append(slices.Clone(m.Fields), api.Value{})) {
			other := m
			other.Fields = l
			out = append(out, other)
		}
	}
	return out
}

// TestCheckFails: P14.3, each error alone, and each two of them together, of
// which the first one counts.
func TestCheckFails(t *testing.T) {
	d := read(t, full)
	rank := []api.Errno{api.ErrName, api.ErrState, api.ErrKind, api.ErrCount, api.ErrForm}
	one := map[api.Errno][]flaw{}
	for _, f := range flaws() {
		x := live()
		f.do(&x)
		lies(t, f.what, d, x, f.bad)
		one[f.bad] = append(one[f.bad], f)
	}
	for i, first := range rank {
		for _, second := range rank[i+1:] {
			for _, f := range one[first] {
				for _, g := range one[second][:min(20, len(one[second]))] {
					x := live()
					f.do(&x)
					g.do(&x)
					lies(t, f.what+" and "+g.what, d, x, first)
				}
			}
		}
	}
	x := live()
	for i := range rank {
		one[rank[len(rank)-1-i]][0].do(&x)
		lies(t, "all from there on", d, x, rank[len(rank)-1-i])
	}
	lies(t, "nothing at all", d, api.Item{}, api.ErrName)
	lies(t, "nothing of nothing", api.Def{}, api.Item{}, api.ErrName)
}

// TestCheckNoDef: P14.3, a choreography that is not valid goes ahead of all.
func TestCheckNoDef(t *testing.T) {
	for what, d := range notValid(t) {
		want(t, what, Check(d, live()), api.ErrNoDef)
		want(t, what, Check(d, done()), api.ErrNoDef)
		for _, f := range flaws()[:20] {
			x := live()
			f.do(&x)
			want(t, what+" and "+f.what, Check(d, x), api.ErrNoDef)
			Lies(d, x)
		}
	}
	want(t, "a type without parts", Check(api.Def{Types: []api.Type{{}}}, api.Item{}), api.ErrNoDef)
}

// TestCheckFinal: P14.3, what an artifact may not be in a Final state alone.
func TestCheckFinal(t *testing.T) {
	d := read(t, full)
	for _, c := range []struct {
		counts []int
		box    []api.Mail
		bad    api.Errno
	}{
		{[]int{0, 1, 0, 2}, nil, api.OK},
		{[]int{0, 0, 0, 2}, nil, api.ErrCount}, {[]int{0, 1, 0, 1}, nil, api.ErrCount}, {[]int{0, 3, 0, 0}, nil, api.ErrCount}, {[]int{2, 0, 1, 0}, nil, api.ErrCount},
		{[]int{0, 1, 0, 2}, messages(), api.ErrForm}, {[]int{0, 1, 0, 2}, messages()[1:2], api.ErrForm}, {[]int{0, 1, 0, 2}, badMessages()[:1], api.ErrForm},
		{[]int{0, 1, 0, 1}, messages(), api.ErrCount}, {[]int{0, 1, 0}, messages(), api.ErrCount}, {[]int{0, 4, 0, 2}, nil, api.ErrCount}, {[]int{-1, 1, 0, 2}, nil, api.ErrCount},
	} {
		x := done()
		x.Counts, x.Box = c.counts, c.box
		lies(t, "the end", d, x, c.bad)
		if x.State = "two"; len(c.box) != 1 && c.counts[0] >= 0 && c.counts[1] < 4 && len(c.counts) == 4 {
			lies(t, "ahead of the end", d, x, api.OK)
		}
	}
}

// TestMail: P14.3, each message that some Box may have, and each that none may.
func TestMail(t *testing.T) {
	d := read(t, full)
	for _, m := range append(messages(), api.Mail{Channel: "c4", Key: row(text("t"))}) {
		want(t, "Mail "+m.Channel, Mail(d, m), true)
	}
	for _, m := range badMessages() {
		want(t, "Mail "+m.Channel+" that may not be there", Mail(d, m), m.Channel == "c4" && len(m.Key) == 1 && len(m.Fields) == 0)
		for _, other := range notValid(t) {
			Mail(other, m)
		}
	}
	for _, m := range []api.Mail{
		{Channel: "c4"}, {Channel: "c4", Key: row(sym("t"))}, {Channel: "c4", Key: row(text("t"), text("u"))}, {Channel: "c4", Key: row(text("t")), Fields: row(text("t"))},
		{Channel: "c4", Key: row(num(1), sym("red"))},
	} {
		want(t, "Mail c4", Mail(d, m), false)
		x, _ := New(d, "z", 1, 0, valsOfZ()...)
		x.Box = []api.Mail{m}
		lies(t, "a z with it", d, x, api.ErrForm)
	}
	want(t, "Mail of nothing", Mail(api.Def{}, api.Mail{}), false)
	want(t, "Mail of nothing", Mail(api.Def{}, messages()[0]), false)
}
