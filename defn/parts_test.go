package defn

import (
	"math"
	"slices"
	"strconv"
	"strings"
	"testing"

	"switchyard/api"
)

// piece is an optional piece of a declaration: its text, which stands ahead of
// all pieces of a later place, and what it declares. Pieces of one place may
// stand in any order, if there may be many of them.
type piece[T any] struct {
	text  string
	place int
	many  bool
	add   func(to *T)
}

// inAllWays checks a declaration with each choice of its pieces, and that no
// two of them may change places.
func inAllWays[T any](t *testing.T, begin, end string, whole func(T) api.Def, base T, pieces []piece[T]) {
	t.Helper()
	for chosen := range 1 << len(pieces) {
		text, out := begin, base
		for i, p := range pieces {
			if chosen>>i&1 == 1 {
				text += p.text
				p.add(&out)
			}
		}
		both(t, whole(out), text+end)
	}
	for _, first := range pieces {
		for _, second := range pieces {
			if first.place > second.place || first.place == second.place && !first.many {
				fails(t, begin+first.text+" ^"+second.text+end, api.ErrSyntax)
			}
		}
	}
}

func TestMove(t *testing.T) {
	id, c := attr("id"), attr("c")
	moveOf := func(m api.Move) api.Def {
		return api.Def{Types: []api.Type{{Name: "a", Moves: []api.Move{m}}}}
	}
	inAllWays(t, "artifact a {\n\tmove go: new -> done", ";\n}\n", moveOf, api.Move{Name: "go", From: "new", To: "done"}, []piece[api.Move]{
		{" on paid", 0, false, func(m *api.Move) { m.On = "paid" }},
		{" after 3", 1, false, func(m *api.Move) { m.After = 3 }},
		{" when id == c", 2, false, func(m *api.Move) { m.When = node(api.OpEq, id, c) }},
		{" set c = 'red", 3, true, func(m *api.Move) { m.Sets = append(slices.Clip(m.Sets), api.Set{Attr: "c", To: sym("red")}) }},
		{" set id = id + 1", 3, true, func(m *api.Move) {
			m.Sets = append(slices.Clip(m.Sets), api.Set{Attr: "id", To: node(api.OpAdd, id, num(1))})
		}},
		{" send ask", 4, true, func(m *api.Move) { m.Sends = append(slices.Clip(m.Sends), "ask") }},
		{" send ask", 4, true, func(m *api.Move) { m.Sends = append(slices.Clip(m.Sends), "ask") }},
		{" send told", 4, true, func(m *api.Move) { m.Sends = append(slices.Clip(m.Sends), "told") }},
	})
}

func TestChannel(t *testing.T) {
	base := api.Channel{Name: "c", From: "a", FromPort: "b", To: "d", ToPort: "e", Low: 1, High: 2}
	one, list := attr("id"), api.Expr{Op: api.OpList}
	for text, by := range map[string][]api.Expr{
		"id":                  {one},
		"id, []":              {one, list},
		"[], id, id, [id], 1": {list, one, one, node(api.OpList, one), num(1)},
	} {
		base.By = by
		inAllWays(t, "channel c: a.b -> d.e by "+text+" for 1..2", ";\n", func(c api.Channel) api.Def { return api.Def{Channels: []api.Channel{c}} }, base, []piece[api.Channel]{
			{" spawn", 0, false, func(c *api.Channel) { c.Spawn = true }},
			{" carry id", 1, false, func(c *api.Channel) { c.Carry = []string{"id"} }},
		})
	}
	base.Carry = []string{"x", "y", "x"}
	both(t, api.Def{Channels: []api.Channel{base, base}}, strings.Repeat(printedChannel(t, base), 2))
}

func printedChannel(t *testing.T, c api.Channel) string {
	s, bad := Print(api.Def{Channels: []api.Channel{c}})
	want(t, "error", bad, api.OK)
	want(t, "end of "+s, strings.HasSuffix(s, " for 1..2 carry x, y, x;\n"), true)
	return s
}

func TestMilestone(t *testing.T) {
	inAllWays(t, "milestone m: a b -> c by d for 1..2", ";\n", func(g api.Group) api.Def { return api.Def{Groups: []api.Group{g}} },
		api.Group{Name: "m", Type: "a", State: "b", To: "c", By: "d", Low: 1, High: 2}, []piece[api.Group]{
			{" when !id", 0, false, func(g *api.Group) { g.When = node(api.OpNot, attr("id")) }},
		})
}

func TestState(t *testing.T) {
	stateOf := func(s api.State) api.Def {
		return api.Def{Types: []api.Type{{Name: "a", States: []api.State{s}}}}
	}
	inAllWays(t, "artifact a {\n\tstate s", ";\n}\n", stateOf, api.State{Name: "s"}, []piece[api.State]{
		{" start", 0, false, func(s *api.State) { s.Start = true }},
		{" final", 1, false, func(s *api.State) { s.Final = true }},
	})
}

func sightOf(s api.Sight) api.Def {
	return api.Def{Roles: []api.Role{{Name: "r", Sees: []api.Sight{s}}}}
}

func TestSight(t *testing.T) {
	for parens, attrs := range map[string][]string{"": nil, "(id)": {"id"}, "(id, c)": {"id", "c"}, "(id, c, id)": {"id", "c", "id"}} {
		inAllWays(t, "role r {\n\tsees a"+parens, ";\n}\n", sightOf, api.Sight{Type: "a", Attrs: attrs}, []piece[api.Sight]{
			{" in new", 0, false, func(s *api.Sight) { s.States = []string{"new"} }},
			{" where id < 1", 1, false, func(s *api.Sight) { s.Where = node(api.OpLt, attr("id"), num(1)) }},
		})
		both(t, sightOf(api.Sight{Type: "a", Attrs: attrs, States: []string{"b", "c", "d"}}), "role r {\n\tsees a"+parens+" in b, c, d;\n}\n")
	}
	// Parens without a name are none.
	parses(t, "role r { sees a(); }", sightOf(api.Sight{Type: "a"}))
	parses(t, "role r { sees a ( ) in b; }", sightOf(api.Sight{Type: "a", States: []string{"b"}}))
	parses(t, "role r { sees a()where b; }", sightOf(api.Sight{Type: "a", Where: attr("b")}))
	for _, s := range []string{"a(^,)", "a(b,^)", "a(b ^c)", "a(^(b))", "a(b)^(c)", "a()^()", "a^)", "a(^;", "a(b^;", "a(^1)", "a(^'b)", "a(^\"b\")", "a in^", "a in b,^", "a in b ^c", "a in b ^in c", "a in ^(b)", "a where b ^where c", "a in b^(c)", "a where b^(c)", "a where b ^in c", "a^.b", "a^,b", "a ^b"} {
		fails(t, "role r { sees "+s+"; }", api.ErrSyntax)
	}
}

func TestRight(t *testing.T) {
	rightOf := func(l ...api.Right) api.Def {
		return api.Def{Roles: []api.Role{{Name: "r", May: l}}}
	}
	both(t, rightOf(api.Right{Type: "a"}), "role r {\n\tmay a;\n}\n")
	both(t, rightOf(api.Right{Type: "a", Move: "b"}), "role r {\n\tmay a.b;\n}\n")
	both(t, rightOf(api.Right{Type: "a", Move: "b"}, api.Right{Type: "a"}, api.Right{Type: "a"}, api.Right{Type: "may", Move: "may"}),
		"role r {\n\tmay a.b;\n\tmay a;\n\tmay a;\n\tmay may.may;\n}\n")
	for _, s := range []string{"^", "a.^", "^.b", "a ^b", "a.b^.c", "a^, b", "a^..b", "a.^1", "^1", "^'a", "a.^'b", "a^(b)", "a ^where b"} {
		fails(t, "role r { may "+s+"; }", api.ErrSyntax)
	}
}

// TestKey: the names of several parts form one list.
func TestKey(t *testing.T) {
	typeOf := func(key ...string) api.Def { return api.Def{Types: []api.Type{{Name: "a", Key: key}}} }
	both(t, typeOf("b"), "artifact a {\n\tkey b;\n}\n")
	both(t, typeOf("b", "c"), "artifact a {\n\tkey b, c;\n}\n")
	both(t, typeOf("b", "a", "b", "key"), "artifact a {\n\tkey b, a, b, key;\n}\n")
	parses(t, "artifact a { key b; key c; }", typeOf("b", "c"))
	with := typeOf("c", "b", "d", "c")
	with.Types[0].States = []api.State{{Name: "s"}}
	parses(t, "artifact a { key c, b; state s; key d; key c; }", with)
	for _, s := range []string{"key ^", "key b,^", "key b ^c", "key ^, b", "key ^1", "key ^'b", "key b^: c"} {
		fails(t, "artifact a { "+s+"; }", api.ErrSyntax)
	}
}

func TestEnum(t *testing.T) {
	both(t, api.Def{Enums: []api.Enum{{Name: "e", Syms: []string{"a"}}}}, "enum e { a }\n")
	both(t, api.Def{Enums: []api.Enum{{Name: "int", Syms: []string{"true", "enum", "true"}}, {Name: "int", Syms: []string{"a"}}}}, "enum int { true, enum, true }\nenum int { a }\n")
	for _, s := range []string{"enum ^", "enum ^{ a }", "enum e ^a", "enum e { ^}", "enum e { a ^", "enum e { a, ^}", "enum e { ^, a }", "enum e { a ^b }", "enum e { ^'a }", "enum e { ^1 }", "enum e { a }^;", "enum e ^; { a }", "enum e { a ^; }", "enum ^'e { a }"} {
		fails(t, s, api.ErrSyntax)
	}
}

func attrsOf(l ...api.Attr) api.Def { return api.Def{Types: []api.Type{{Name: "a", Attrs: l}}} }

func TestAttr(t *testing.T) {
	for word, kind := range map[string]int{"int": api.Int, "bool": api.Bool, "text": api.Text, "list": api.List} {
		both(t, attrsOf(api.Attr{Name: "x", Kind: kind}), "artifact a {\n\tattr x "+word+";\n}\n")
		both(t, attrsOf(api.Attr{Name: word, Kind: kind}), "artifact a {\n\tattr "+word+" "+word+";\n}\n")
	}
	for _, word := range []string{"e", "Int", "INT", "ints", "in", "int_", "Bool", "boolean", "string", "lists", "none", "sym", "enum", "attr", "true", "len", strings.Repeat("x", 24)} {
		both(t, attrsOf(api.Attr{Name: "x", Kind: api.Sym, Enum: word}, api.Attr{Name: word, Kind: api.Int}), "artifact a {\n\tattr x "+word+";\n\tattr "+word+" int;\n}\n")
	}
	for _, s := range []string{"attr^", "attr x^", "attr x int ^int", "attr ^1 int", "attr x ^1", "attr x ^'e", "attr x ^\"int\"", "attr ^'x int", "attr x^, y int", "attr x^: int", "attr x int^, y"} {
		fails(t, "artifact a { "+s+"; }", api.ErrSyntax)
	}
}

func TestPort(t *testing.T) {
	portsOf := func(l ...api.Port) api.Def { return api.Def{Types: []api.Type{{Name: "a", Ports: l}}} }
	const most = math.MaxInt32
	for _, low := range []int{0, 1, 9, 10, 1000, most - 1, most} {
		for _, high := range []int{0, 1, 10, most - 1, most} {
			text := strconv.Itoa(low) + ".." + strconv.Itoa(high)
			both(t, portsOf(api.Port{Name: "p", Min: low, Max: high}, api.Port{Name: "q", Out: true, Min: high, Max: low}),
				"artifact a {\n\tin p "+text+";\n\tout q "+strconv.Itoa(high)+".."+strconv.Itoa(low)+";\n}\n")
			parses(t, "artifact a { in p "+strconv.Itoa(low)+" ..\n"+strconv.Itoa(high)+"; }", portsOf(api.Port{Name: "p", Min: low, Max: high}))
		}
	}
	for _, word := range []string{"in", "out"} {
		for _, s := range []string{"^", "p ^", "p 1^", "p 1..^", "p ^..1", "p 1 ^2", "p 1^.2", "p 1^. .2", "p 1..2^..3", "^1..2", "p ^x..2", "p 1..^x", "p ^'x..2", "p ^-1..2", "p 1..^-2", "p ^\"1\"..2", "p^: 1..2", "p 1^, 2", "p ^(1..2)", "p 1..2 ^start"} {
			fails(t, "artifact a { "+word+" "+s+"; }", api.ErrSyntax)
		}
	}
}

// TestRanges: the numbers of a range, wherever it may stand.
func TestRanges(t *testing.T) {
	for _, s := range []string{"artifact a { in p RANGE; }", "artifact a { out p RANGE; }", "channel a: b.c -> d.e by f for RANGE;", "milestone m: a b -> c by d for RANGE;"} {
		source := func(with string) string { return strings.Replace(s, "RANGE", with, 1) }
		for _, n := range []string{"0", "1", "2147483646", "2147483647"} {
			for _, m := range []string{"0", "1", "2147483646", "2147483647"} {
				_, at, bad := Parse(source(n + ".." + m))
				want(t, "error of "+source(n+".."+m), bad, api.OK)
				want(t, "offset", at, 0)
			}
		}
		for _, n := range []string{"2147483648", "2147483649", "4294967295", "4294967296", "4294967297", "9223372036854775807"} {
			for _, m := range []string{"0", "2147483647", "x", n} {
				fails(t, source("^"+n+".."+m), api.ErrSyntax)
			}
			fails(t, source("0..^"+n), api.ErrSyntax)
			fails(t, source("2147483647 .. ^"+n), api.ErrSyntax)
		}
		for _, n := range []string{"9223372036854775808", "18446744073709551616", strings.Repeat("9", 100), "00", "01", "-0"} {
			bad := api.ErrToken
			if n == "-0" {
				bad = api.ErrSyntax
			}
			fails(t, source("^"+n+"..0"), bad)
			fails(t, source("0..^"+n), bad)
		}
	}
}

// TestAfter: the numbers behind after are not those of a range.
func TestAfter(t *testing.T) {
	const begin = "artifact a {\n\tmove m: b -> c"
	moveOf := func(after int64) api.Def {
		return api.Def{Types: []api.Type{{Name: "a", Moves: []api.Move{{Name: "m", From: "b", To: "c", After: after}}}}}
	}
	for _, n := range []int64{1, 2, 10, math.MaxInt32 - 1, math.MaxInt32, math.MaxInt32 + 1, math.MaxUint32, math.MaxUint32 + 1, api.MaxTime - 1, api.MaxTime, api.MaxTime + 1, math.MaxInt64 - 1, math.MaxInt64} {
		both(t, moveOf(n), begin+" after "+strconv.FormatInt(n, 10)+";\n}\n")
	}
	parses(t, begin+" after 0; }", moveOf(0)) // as if it were missing
	prints(t, moveOf(0), begin+";\n}\n")
	for _, s := range []string{"after ^", "after ^x", "after ^'x", "after ^\"1\"", "after ^-1", "after 1 ^2", "after 1^..2", "after ^(1)", "after 1 ^+ 1", "after ^when 1"} {
		fails(t, begin+" "+s+"; }", api.ErrSyntax)
	}
	fails(t, begin+" after ^9223372036854775808; }", api.ErrToken)
	fails(t, begin+" after ^00; }", api.ErrToken)
}
