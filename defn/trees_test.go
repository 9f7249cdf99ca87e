package defn

import (
	"strings"
	"testing"

	"switchyard/api"
	"switchyard/expr"
)

// treePlace is a place where an expression stands: the source around it, and
// what is declared there.
type treePlace struct {
	begin, end string
	required   bool
	def        func(e api.Expr) api.Def
}

func moveWith(m api.Move) api.Def {
	m.Name, m.From, m.To = "m", "b", "c"
	return api.Def{Types: []api.Type{{Name: "a", Moves: []api.Move{m}}}}
}

func channelBy(l ...api.Expr) api.Def {
	return api.Def{Channels: []api.Channel{{Name: "c", From: "a", FromPort: "b", To: "d", ToPort: "e", By: l, Low: 1, High: 2}}}
}

// treePlaces are all places, with each word that may follow.
func treePlaces() []treePlace {
	const move = "artifact a {\n\tmove m: b -> c"
	one := num(1)
	when := func(m api.Move) func(e api.Expr) api.Def {
		return func(e api.Expr) api.Def { m.When = e; return moveWith(m) }
	}
	to := func(sends []string, behind ...api.Set) func(e api.Expr) api.Def {
		return func(e api.Expr) api.Def {
			return moveWith(api.Move{Sets: append([]api.Set{{Attr: "x", To: e}}, behind...), Sends: sends})
		}
	}
	milestone := func(e api.Expr) api.Def {
		return api.Def{Groups: []api.Group{{Name: "m", Type: "a", State: "b", To: "c", By: "d", Low: 1, High: 2, When: e}}}
	}
	where := func(e api.Expr) api.Def { return sightOf(api.Sight{Type: "a", States: []string{"b"}, Where: e}) }
	return []treePlace{
		{move + " when ", ";\n}\n", false, when(api.Move{})},
		{move + " after 4 when ", " send s;\n}\n", false, when(api.Move{After: 4, Sends: []string{"s"}})},
		{move + " on p when ", " set x = 1;\n}\n", false, when(api.Move{On: "p", Sets: []api.Set{{Attr: "x", To: one}}})},
		{move + " set x = ", ";\n}\n", true, to(nil)},
		{move + " set x = ", " set y = 1;\n}\n", true, to(nil, api.Set{Attr: "y", To: one})},
		{move + " set x = ", " send s send t;\n}\n", true, to([]string{"s", "t"})},
		{"channel c: a.b -> d.e by ", " for 1..2;\n", true, func(e api.Expr) api.Def { return channelBy(e) }},
		{"channel c: a.b -> d.e by ", ", 1 for 1..2;\n", true, func(e api.Expr) api.Def { return channelBy(e, one) }},
		{"channel c: a.b -> d.e by 1, ", " for 1..2;\n", true, func(e api.Expr) api.Def { return channelBy(one, e) }},
		{"milestone m: a b -> c by d for 1..2 when ", ";\n", false, milestone},
		{"role r {\n\tsees a in b where ", ";\n}\n", false, where},
	}
}

// row is an expression of so many nodes.
func row(nodes int) string {
	return strings.Repeat("!", (nodes+1)%2) + "a" + strings.Repeat(" + a", (nodes-1)/2)
}

// deep is an expression in which so many constructs are open.
func deep(open int) string {
	return strings.Repeat("[", open) + "a" + strings.Repeat("]", open)
}

// elements is a list of so many.
func elements(n int) string {
	return "[a" + strings.Repeat(", a", n-1) + "]"
}

// TestTrees: expressions in each place, those at the limits among them, as
// they are printed.
func TestTrees(t *testing.T) {
	sources := []string{
		"1", "9223372036854775807", "true", "false", `"a\"\x00;"`, `""`, "'set", "a", "set", "send", "for", "when", "where", "spawn", "by", "msg.set", "msg.for", "msg.msg",
		"[]", "len(send)", "at(a, 1)", "push([], -1)", "!a", "-1", "--a", "a + 2 * -b", "(a + 1) * 2", "(a || b) && !(c && d)", "a < b", "(a < b) == (c <= d)", "[a < b, c]",
		row(199), row(200), deep(20), elements(16),
		strings.Repeat("-", 20) + "a", strings.Repeat("a - (", 20) + "a - a" + strings.Repeat(")", 20),
	}
	for _, p := range treePlaces() {
		for _, s := range sources {
			both(t, p.def(tree(t, s)), p.begin+s+p.end)
		}
		// Sources that are not printed as they are.
		for s, text := range map[string]string{"b>a": "a < b", "((a))": "a", "(a)": "a", "((a*b))+c": "a * b + c", "a>=(b)": "b <= a", "- 1": "-1", "[ 1,2 ]": "[1, 2]", "msg . a": "msg.a", "len ( a )": "len(a)"} {
			parses(t, p.begin+s+p.end, p.def(tree(t, s)))
			parses(t, p.begin+s+p.end, p.def(tree(t, text)))
			prints(t, p.def(tree(t, s)), p.begin+text+p.end)
		}
	}
}

// TestTreeErrors: each error of layer 8 in each place, with its offset.
func TestTreeErrors(t *testing.T) {
	errors := map[string]api.Errno{
		"^":                 api.ErrSyntax,
		"^+ 1":              api.ErrSyntax,
		"a +^":              api.ErrSyntax,
		"a == b ^< c":       api.ErrSyntax,
		"a < b ^< c":        api.ErrSyntax,
		"(a^":               api.ErrSyntax,
		"(a ^b)":            api.ErrSyntax,
		"a^)":               api.ErrSyntax,
		"[a,^":              api.ErrSyntax,
		"[a, ^]":            api.ErrSyntax,
		"[^,]":              api.ErrSyntax,
		"a^]":               api.ErrSyntax,
		"(^)":               api.ErrSyntax,
		"len^":              api.ErrSyntax,
		"len ^a":            api.ErrSyntax,
		"len(a^, b)":        api.ErrSyntax,
		"at(a^)":            api.ErrSyntax,
		"push(a, b^, c)":    api.ErrSyntax,
		"msg^":              api.ErrSyntax,
		"msg.^":             api.ErrSyntax,
		"msg.^1":            api.ErrSyntax,
		"!^":                api.ErrSyntax,
		"a ^!b":             api.ErrSyntax,
		"a ^b":              api.ErrSyntax,
		"a ^1":              api.ErrSyntax,
		"a ^'b":             api.ErrSyntax,
		"a^.b":              api.ErrSyntax,
		"a^(b)":             api.ErrSyntax,
		"a^[b]":             api.ErrSyntax,
		"a ^= b":            api.ErrSyntax,
		"a^..b":             api.ErrSyntax,
		"a^: b":             api.ErrSyntax,
		"a ^-> b":           api.ErrSyntax,
		row(199) + " + ^a":  api.ErrMany,
		row(200) + " ^+ a":  api.ErrMany,
		row(200) + " ^== a": api.ErrMany,
		row(200) + " ^a":    api.ErrSyntax,
		strings.Replace(elements(17), ", a]", ", ^a]", 1): api.ErrMany,
		strings.Replace(elements(16), "]", ", ^]", 1):     api.ErrSyntax,
		strings.Repeat("[", 20) + "^" + deep(1):           api.ErrDeep,
		strings.Repeat("!", 20) + "^!a":                   api.ErrDeep,
		strings.Repeat("(", 20) + "len^(":                 api.ErrDeep,
		strings.Repeat("(", 20) + "^(":                    api.ErrDeep,
		"a ^@ b":                                          api.ErrToken,
		"^01":                                             api.ErrToken,
	}
	for _, p := range treePlaces() {
		for s, bad := range errors {
			fails(t, p.begin+s+" ;"+p.end, bad)
			// The first error counts, whatever is behind it.
			if bad != api.ErrToken {
				fails(t, p.begin+s+" ; ] ) x 2147483648..", bad)
			}
		}
		// An expression does not count what others have.
		parses(t, strings.Repeat(p.begin+row(200)+p.end, 5), times(5, p.def(tree(t, row(200)))))
		parses(t, strings.Repeat(p.begin+deep(20)+p.end, 25), times(25, p.def(tree(t, deep(20)))))
	}
	// An expression that has not ended takes the next word for a name.
	fails(t, "artifact a { move m: b -> c when a + send ^s; }", api.ErrSyntax)
	fails(t, "artifact a { move m: b -> c set x = send ^s; }", api.ErrSyntax)
	fails(t, "artifact a { move m: b -> c when set ^x = 1; }", api.ErrSyntax)
	fails(t, "channel c: a.b -> d.e by a, for ^1..2;", api.ErrSyntax)
	fails(t, "channel c: a.b -> d.e by for ^1..2;", api.ErrSyntax)
	fails(t, "channel c: a.b -> d.e by a,^, for 1..2;", api.ErrSyntax)
	fails(t, "channel c: a.b -> d.e by a, b ^c for 1..2;", api.ErrSyntax)
	fails(t, "channel c: a.b -> d.e ^for 1..2;", api.ErrSyntax)
}

// times is what a source declares that has the same declarations several
// times.
func times(n int, d api.Def) api.Def {
	var out api.Def
	for range n {
		out.Types = append(out.Types, d.Types...)
		out.Channels = append(out.Channels, d.Channels...)
		out.Groups = append(out.Groups, d.Groups...)
		out.Roles = append(out.Roles, d.Roles...)
	}
	return out
}

// TestPrintTrees: what layer 8 refuses, and expressions without an Op, in each
// place.
func TestPrintTrees(t *testing.T) {
	a := attr("a")
	endless := []api.Expr{node(api.OpNot)}
	endless[0].Args = endless
	wide, long := node(api.OpList), a
	for range 17 {
		wide.Args = append(wide.Args, a)
	}
	for range 21 {
		long = node(api.OpNeg, long)
	}
	refused := map[api.Errno][]api.Expr{
		api.ErrMany: {endless[0], node(api.OpNot, tree(t, row(200)))},
		api.ErrForm: {
			num(-1), {Op: api.OpBool, Num: 2}, {Op: api.OpText, Text: strings.Repeat("x", 65)}, wide, {Op: 8}, {Op: -1}, {Op: 42, Args: []api.Expr{a, a}},
			node(api.OpAdd, a), {Op: api.OpInt, Text: "x"}, {Op: api.OpAttr, Text: "a", Num: 1}, node(api.OpNot, api.Expr{}),
		},
		api.ErrName: {attr(""), attr("len"), attr("a b"), sym("1"), {Op: api.OpField}, node(api.OpNeg, attr(strings.Repeat("x", 25)))},
		api.ErrDeep: {long},
	}
	for _, p := range treePlaces() {
		for bad, l := range refused {
			for _, e := range l {
				refuses(t, p.begin, p.def(e), bad)
			}
		}
		// Without an Op there is no expression; with anything else, layer 8
		// refuses it.
		if p.required {
			refuses(t, p.begin, p.def(api.Expr{}), api.ErrForm)
		} else {
			without := strings.TrimSuffix(strings.TrimSuffix(p.begin, " when "), " where ") + p.end
			both(t, p.def(api.Expr{}), without)
			prints(t, p.def(api.Expr{Args: []api.Expr{}}), without)
		}
		for _, e := range []api.Expr{{Num: 1}, {Num: -1}, {Text: "a"}, {Args: []api.Expr{a}}, {Args: []api.Expr{{}}}} {
			refuses(t, "no Op, in "+p.begin, p.def(e), api.ErrForm)
		}
	}
	refuses(t, "no By", channelBy(), api.ErrForm)
	both(t, channelBy(a, a, a, a, a), "channel c: a.b -> d.e by a, a, a, a, a for 1..2;\n")
	_, bad := expr.Print(long)
	want(t, "layer 8's own", bad, api.ErrDeep)
}
