package expr

import (
	"math"
	"slices"
	"strings"
	"testing"

	"switchyard/api"
	"switchyard/lex"
)

func tokens(t *testing.T, s string) []api.Token {
	t.Helper()
	l, _, bad := lex.Scan(s)
	want(t, "error of Scan of "+s, bad, api.OK)
	return l
}

// parses checks what Parse returns for tokens, and that it leaves them alone.
func parses(t *testing.T, what string, l []api.Token, at int, e api.Expr, next int, bad api.Errno) {
	t.Helper()
	given := slices.Clone(l[:cap(l)])
	gotE, gotNext, gotBad := Parse(l, at)
	want(t, "error of "+what, gotBad, bad)
	want(t, "index of "+what, gotNext, next)
	if !same(gotE, e) {
		t.Errorf("tree of %s: got %v, want %v", what, gotE, e)
	}
	want(t, "tokens of "+what+" as they were", slices.Equal(given, l[:cap(l)]), true)
}

// TestLongest: an expression ends ahead of the first token that it can't
// continue with, whatever is behind that.
func TestLongest(t *testing.T) {
	a, b := attr("a"), attr("b")
	for _, behind := range []string{
		"", " b", ")", "]", ", b", ";", "= b", ": b", "(b)", "[b]", ". b", "-> b", ".. b", "{", "!b", "! ! !", " 1", "'x", `"x"`,
		" true", " msg", " len", " at +", ") + * (", " a + b",
	} {
		parses(t, "a"+behind, tokens(t, "a"+behind), 0, a, 1, api.OK)
		parses(t, "(a)"+behind, tokens(t, "x y (a)"+behind), 2, a, 5, api.OK)
	}
	for s, next := range map[string]int{"a < b": 3, "a < b < c": 3, "a < b == c && d": 3, "a < b >=": 3, "a < b ) && c": 3, "a < b set c = d": 3, "a < b < < <": 3} {
		parses(t, s, tokens(t, s), 0, node(api.OpLt, a, b), next, api.OK)
	}
	parses(t, "a && b < c < d", tokens(t, "a && b < c < d"), 0, node(api.OpAnd, a, node(api.OpLt, b, attr("c"))), 5, api.OK)
	parses(t, "by id + 1 for 1", tokens(t, "by a - b for 1"), 1, node(api.OpSub, a, b), 4, api.OK)
	parses(t, "many parens behind it", tokens(t, "a"+strings.Repeat("(", 50)), 0, a, 1, api.OK)
	parses(t, "many names behind it", tokens(t, "a"+strings.Repeat(" a", 500)), 0, a, 1, api.OK)
	full := "-" + strings.Repeat("a+", 99) + "a"
	e, _, bad := Read(full)
	want(t, "200 nodes", bad, api.OK)
	for _, s := range []string{" b", " 1", " (b)", " []", " !b", " true", ", b", " len(a)", " 'x"} {
		parses(t, full+s, tokens(t, full+s), 0, e, 200, api.OK)
	}
	parses(t, "too many", tokens(t, full+"+ b"), 0, api.Expr{}, 200, api.ErrMany)
}

// TestFrom: an expression begins at each index.
func TestFrom(t *testing.T) {
	l := tokens(t, "a - b * c ) < 1")
	a, b, c := attr("a"), attr("b"), attr("c")
	product := node(api.OpMul, b, c)
	for at, wanted := range []struct {
		e    api.Expr
		next int
		bad  api.Errno
	}{
		{node(api.OpSub, a, product), 5, api.OK},
		{node(api.OpMul, node(api.OpNeg, b), c), 5, api.OK},
		{product, 5, api.OK},
		{api.Expr{}, 3, api.ErrSyntax},
		{c, 5, api.OK},
		{api.Expr{}, 5, api.ErrSyntax},
		{api.Expr{}, 6, api.ErrSyntax},
		{num(1), 8, api.OK},
		{api.Expr{}, 8, api.ErrSyntax},
		{api.Expr{}, 9, api.ErrArg},
	} {
		parses(t, "from another index", l, at, wanted.e, wanted.next, wanted.bad)
	}
	// What is ahead counts for nothing.
	behind := tokens(t, strings.Repeat("( a + ! ", 100)+strings.Repeat("(", 20)+"a"+strings.Repeat(")", 20))
	parses(t, "behind much", behind, 400, a, 441, api.OK)
	parses(t, "an error behind much", tokens(t, strings.Repeat("; ", 50)+"(a"), 50, api.Expr{}, 52, api.ErrSyntax)
}

func TestArg(t *testing.T) {
	l := tokens(t, "a + b")
	for _, at := range []int{-1, 4, 5, 1000, -1000, math.MaxInt, math.MinInt} {
		parses(t, "no such index", l, at, api.Expr{}, at, api.ErrArg)
		parses(t, "none at all", nil, at, api.Expr{}, at, api.ErrArg)
		parses(t, "an empty list", []api.Token{}, at, api.Expr{}, at, api.ErrArg)
	}
	parses(t, "none at all", nil, 0, api.Expr{}, 0, api.ErrArg)
	parses(t, "an end behind the length", l[:3], 0, api.Expr{}, 0, api.ErrArg)
	end, name := l[3], l[0]
	plus := l[1]
	for _, l := range [][]api.Token{
		{name},
		{plus},
		{name, plus, name},
		{end, name},
		{name, end, name},
		{name, end, end},
		{end, end},
		{name, plus, name, end, plus, name, end},
		{end, name, plus, end},
		{name, end, plus, {Kind: 6}},
		{name, {Kind: api.TokEnd, Text: "x", Num: 7}, plus, end},
	} {
		for at := -1; at <= len(l); at++ {
			parses(t, "ends that are wrong", l, at, api.Expr{}, at, api.ErrArg)
		}
	}
	parses(t, "an end alone", []api.Token{end}, 0, api.Expr{}, 0, api.ErrSyntax)
	parses(t, "an end with a text", []api.Token{name, {Kind: api.TokEnd, Text: "x", Num: 7, At: -3}}, 0, attr("a"), 1, api.OK)
	parses(t, "an end with a text", []api.Token{name, plus, {Kind: api.TokEnd, Text: "x"}}, 0, api.Expr{}, 2, api.ErrSyntax)
}

// strange are tokens that Scan would not return, which are none.
func strange() []api.Token {
	return []api.Token{
		{Kind: api.TokName}, {Kind: api.TokName, Text: "1"}, {Kind: api.TokName, Text: "_a"}, {Kind: api.TokName, Text: "a b"}, {Kind: api.TokName, Text: "a//"}, {Kind: api.TokName, Text: "("}, {Kind: api.TokName, Text: "true "},
		{Kind: api.TokName, Text: strings.Repeat("a", 25)}, {Kind: api.TokName, Text: "ä"},
		{Kind: api.TokInt, Num: -1}, {Kind: api.TokInt, Text: "-5", Num: -5}, {Kind: api.TokInt, Text: "1", Num: math.MinInt64},
		{Kind: api.TokText, Text: strings.Repeat("a", 65)}, {Kind: api.TokText, Text: strings.Repeat("\xff", 1000)},
		{Kind: api.TokSym}, {Kind: api.TokSym, Text: "'a"}, {Kind: api.TokSym, Text: "a "}, {Kind: api.TokSym, Text: strings.Repeat("a", 25)},
		{Kind: api.TokSign}, {Kind: api.TokSign, Text: "&"}, {Kind: api.TokSign, Text: "|"}, {Kind: api.TokSign, Text: "+ "}, {Kind: api.TokSign, Text: "a"}, {Kind: api.TokSign, Text: "true"}, {Kind: api.TokSign, Text: "len"}, {Kind: api.TokSign, Text: "at"}, {Kind: api.TokSign, Text: "msg"}, {Kind: api.TokSign, Text: "1"}, {Kind: api.TokSign, Text: "((("},
		{Kind: 6, Text: "a"}, {Kind: 6, Text: "(", Num: 1}, {Kind: -1, Text: "a"}, {Kind: -1, Text: "+"}, {Kind: math.MaxInt, Text: "1", Num: 1}, {Kind: math.MinInt},
	}
}

func TestStrange(t *testing.T) {
	a, end := api.Token{Kind: api.TokName, Text: "a"}, api.Token{}
	for _, x := range strange() {
		for s, wanted := range map[string]struct {
			e    api.Expr
			next int
			bad  api.Errno
		}{
			"":           {api.Expr{}, 0, api.ErrSyntax},
			"a":          {attr("a"), 1, api.OK},
			"(a)":        {attr("a"), 3, api.OK},
			"a +":        {api.Expr{}, 2, api.ErrSyntax},
			"!":          {api.Expr{}, 1, api.ErrSyntax},
			"(":          {api.Expr{}, 1, api.ErrSyntax},
			"(a":         {api.Expr{}, 2, api.ErrSyntax},
			"[":          {api.Expr{}, 1, api.ErrSyntax},
			"[a":         {api.Expr{}, 2, api.ErrSyntax},
			"[a,":        {api.Expr{}, 3, api.ErrSyntax},
			"len":        {api.Expr{}, 1, api.ErrSyntax},
			"at(a":       {api.Expr{}, 3, api.ErrSyntax},
			"push(a, b":  {api.Expr{}, 5, api.ErrSyntax},
			"msg":        {api.Expr{}, 1, api.ErrSyntax},
			"msg.":       {api.Expr{}, 2, api.ErrSyntax},
			"a == b":     {node(api.OpEq, attr("a"), attr("b")), 3, api.OK},
			"-msg.a * 1": {node(api.OpMul, node(api.OpNeg, field("a")), num(1)), 6, api.OK},
		} {
			l := tokens(t, s)
			l = append(l[:len(l)-1], x, a, end)
			parses(t, s+" and a token that is none", l, 0, wanted.e, wanted.next, wanted.bad)
		}
	}
}

// TestMade: tokens that were not scanned, but say all that a tree gets.
func TestMade(t *testing.T) {
	l := []api.Token{
		{Kind: api.TokSym, Text: "len"}, {Kind: api.TokSign, Text: "=="}, {Kind: api.TokText, Text: "("}, {Kind: api.TokSign, Text: "&&"},
		{Kind: api.TokText, Text: strings.Repeat("\n", 64)}, {Kind: api.TokSign, Text: "<"}, {Kind: api.TokInt, Num: math.MaxInt64, At: -7}, {},
	}
	parses(t, "made tokens", l, 0, node(api.OpAnd, node(api.OpEq, sym("len"), text("(")), node(api.OpLt, text(strings.Repeat("\n", 64)), num(math.MaxInt64))), 7, api.OK)
	parses(t, "made tokens", l, 6, num(math.MaxInt64), 7, api.OK)
}

// TestTreesAreNew: what is done to tokens or to a tree changes no other tree.
func TestTreesAreNew(t *testing.T) {
	l := tokens(t, "at([a, 1, -b], len(c)) > msg.d")
	first, _, _ := Parse(l, 0)
	second, _, _ := Parse(l, 0)
	wanted, _ := Print(first)
	clear(l)
	var wipe func(e *api.Expr)
	wipe = func(e *api.Expr) {
		args := e.Args[:cap(e.Args)]
		for i := range args {
			wipe(&args[i])
		}
		*e = api.Expr{Op: -1, Num: 9, Text: "?"}
		clear(args)
	}
	got, _ := Print(first)
	want(t, "a tree, when the tokens are gone", got, wanted)
	wipe(&first)
	got, _ = Print(second)
	want(t, "a tree, when another one is gone", got, wanted)
	// Two lists of one tree share nothing, not even behind their ends.
	third, _, _ := Read("[[a, b, c], [d], [e, f], len(g)]")
	for i := range third.Args {
		args := third.Args[i].Args
		_ = append(args[:cap(args):cap(args)], attr("x"))
		for j := len(args); j < cap(args); j++ {
			args[:cap(args)][j] = attr("x")
		}
	}
	got, _ = Print(third)
	want(t, "a tree, when what is behind its lists is gone", got, "[[a, b, c], [d], [e, f], len(g)]")
}
