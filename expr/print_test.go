package expr

import (
	"math"
	"slices"
	"strconv"
	"strings"
	"testing"

	"switchyard/api"
)

// prints checks the text of a tree, and that it is read as this tree.
func prints(t *testing.T, e api.Expr, wanted string) {
	t.Helper()
	got, bad := Print(e)
	want(t, "error of "+wanted, bad, api.OK)
	want(t, "text", got, wanted)
	reads(t, got, e)
}

// refuses checks that a tree has no text, but an error.
func refuses(t *testing.T, what string, e api.Expr, wanted api.Errno) {
	t.Helper()
	got, bad := Print(e)
	want(t, "error of "+what, bad, wanted)
	want(t, "text of "+what, got, "")
}

func TestPrintPrimaries(t *testing.T) {
	a, b := attr("a"), attr("b")
	long := strings.Repeat("n", api.MaxName)
	for s, e := range map[string]api.Expr{
		"0":                     num(0),
		"9223372036854775807":   num(math.MaxInt64),
		"true":                  {Op: api.OpBool, Num: 1},
		"false":                 {Op: api.OpBool},
		`""`:                    text(""),
		`"a\"\\ \x00\x0a\xff"`:  text("a\"\\ \x00\n\xff"),
		"'red":                  sym("red"),
		"'true":                 sym("true"),
		"'len":                  sym("len"),
		"'" + long:              sym(long),
		"a":                     a,
		long:                    attr(long),
		"Len":                   attr("Len"),
		"msg.a":                 field("a"),
		"msg.msg":               field("msg"),
		"msg.push":              field("push"),
		"msg." + long:           field(long),
		"[]":                    list(),
		"[a]":                   list(a),
		"[a, 1, [], [[b]]]":     list(a, num(1), list(), list(list(b))),
		"[a || b, a < b, -a]":   list(node(api.OpOr, a, b), node(api.OpLt, a, b), node(api.OpNeg, a)),
		"len(a)":                node(api.OpLen, a),
		"len(a || b)":           node(api.OpLen, node(api.OpOr, a, b)),
		"len(len([]))":          node(api.OpLen, node(api.OpLen, list())),
		"at(a, b)":              node(api.OpAt, a, b),
		"at(a + b, a == b)":     node(api.OpAt, node(api.OpAdd, a, b), node(api.OpEq, a, b)),
		"push(a, b)":            node(api.OpPush, a, b),
		"push(push(a, b), !a)":  node(api.OpPush, node(api.OpPush, a, b), node(api.OpNot, a)),
		"!a":                    node(api.OpNot, a),
		"-1":                    node(api.OpNeg, num(1)),
		"--1":                   node(api.OpNeg, node(api.OpNeg, num(1))),
		"!!-!a":                 node(api.OpNot, node(api.OpNot, node(api.OpNeg, node(api.OpNot, a)))),
		"-9223372036854775807":  node(api.OpNeg, num(math.MaxInt64)),
		"!len(a)":               node(api.OpNot, node(api.OpLen, a)),
		"-[a, b]":               node(api.OpNeg, list(a, b)),
		"-msg.a":                node(api.OpNeg, field("a")),
		`!"x"`:                  node(api.OpNot, text("x")),
		"len([1, 2]) < a - --b": node(api.OpLt, node(api.OpLen, list(num(1), num(2))), node(api.OpSub, a, node(api.OpNeg, node(api.OpNeg, b)))),
	} {
		prints(t, e, s)
	}
	prints(t, api.Expr{Op: api.OpAttr, Text: "a", Args: []api.Expr{}}, "a")
	prints(t, text(strings.Repeat("\n", 64)), `"`+strings.Repeat(`\x0a`, 64)+`"`)
	prints(t, list(times(16, a)...), "["+strings.Repeat("a, ", 15)+"a]")
}

// TestPrintParens: one operator in another one, on both sides.
func TestPrintParens(t *testing.T) {
	a, b, c := attr("a"), attr("b"), attr("c")
	for _, o := range binaries() {
		if o.turned {
			continue
		}
		for _, sign := range []struct {
			text string
			op   int
		}{{"!", api.OpNot}, {"-", api.OpNeg}} {
			prints(t, node(sign.op, node(o.op, a, b)), sign.text+"(a "+o.sign+" b)")
			prints(t, node(o.op, node(sign.op, a), node(sign.op, b)), sign.text+"a "+o.sign+" "+sign.text+"b")
			prints(t, node(o.op, node(sign.op, node(o.op, a, b)), c), sign.text+"(a "+o.sign+" b) "+o.sign+" c")
		}
		prints(t, node(o.op, list(a), node(api.OpLen, b)), "[a] "+o.sign+" len(b)")
		for _, p := range binaries() {
			if p.turned {
				continue
			}
			left, right := "(a "+p.sign+" b)", "(b "+p.sign+" c)"
			if p.level > o.level {
				left, right = "a "+p.sign+" b", "b "+p.sign+" c"
			}
			if p.level == o.level && o.level != 3 { // to the left, and no comparison
				left = "a " + p.sign + " b"
			}
			prints(t, node(o.op, node(p.op, a, b), c), left+" "+o.sign+" c")
			prints(t, node(o.op, a, node(p.op, b, c)), "a "+o.sign+" "+right)
		}
	}
	prints(t, node(api.OpMul, node(api.OpMul, a, node(api.OpAdd, b, c)), node(api.OpNot, node(api.OpOr, a, b))), "a * (b + c) * !(a || b)")
	prints(t, node(api.OpEq, node(api.OpEq, a, b), node(api.OpLt, b, c)), "(a == b) == (b < c)")
}

// TestPrintForm: nodes with what does not belong to their Op.
func TestPrintForm(t *testing.T) {
	a := attr("a")
	leaves := []api.Expr{num(1), {Op: api.OpBool, Num: 1}, text("x"), sym("x"), a, field("x")}
	for _, e := range leaves {
		with := e
		with.Args = []api.Expr{a}
		refuses(t, "a leaf with Args", with, api.ErrForm)
	}
	for _, op := range []int{api.OpInt, api.OpBool} {
		refuses(t, "a number with a Text", api.Expr{Op: op, Num: 1, Text: "x"}, api.ErrForm)
	}
	for _, op := range []int{api.OpText, api.OpSym, api.OpAttr, api.OpField} {
		for _, n := range []int64{1, -1, math.MinInt64} {
			refuses(t, "a text with a Num", api.Expr{Op: op, Text: "x", Num: n}, api.ErrForm)
			refuses(t, "no name, with a Num", api.Expr{Op: op, Num: n}, api.ErrForm) // ahead of ErrName
		}
	}
	refuses(t, "a name with Args", api.Expr{Op: api.OpAttr, Text: "len", Args: []api.Expr{a}}, api.ErrForm)
	for op, n := range operands() {
		for wrong := range 5 {
			if wrong != n {
				refuses(t, "a wrong number of Args", node(op, times(wrong, a)...), api.ErrForm)
			}
		}
		_, bad := Print(node(op, times(n, a)...))
		want(t, "the right number of Args", bad, api.OK)
		refuses(t, "a node with a Num", api.Expr{Op: op, Num: 1, Args: times(n, a)}, api.ErrForm)
		refuses(t, "a node with a Text", api.Expr{Op: op, Text: "x", Args: times(n, a)}, api.ErrForm)
	}
}

// operands are how many each Op with operands has.
func operands() map[int]int {
	return map[int]int{
		api.OpNot: 1, api.OpNeg: 1, api.OpLen: 1,
		api.OpMul: 2, api.OpDiv: 2, api.OpRem: 2, api.OpAdd: 2, api.OpSub: 2, api.OpAt: 2, api.OpPush: 2,
		api.OpEq: 2, api.OpNe: 2, api.OpLt: 2, api.OpLe: 2, api.OpAnd: 2, api.OpOr: 2,
	}
}

func TestPrintUnknown(t *testing.T) {
	a := attr("a")
	unknown := []int{math.MinInt, -40, -1, api.OpNone, 1 << 32, 1<<32 + api.OpInt, math.MaxInt}
	for op := range 300 {
		if operands()[op] == 0 && (op < api.OpInt || op > api.OpField) {
			unknown = append(unknown, op)
		}
	}
	for _, op := range unknown {
		what := "Op " + strconv.Itoa(op)
		for n := range 4 {
			refuses(t, what, node(op, times(n, a)...), api.ErrForm)
		}
		refuses(t, what, api.Expr{Op: op, Text: "x"}, api.ErrForm)
		refuses(t, what, api.Expr{Op: op, Num: 1}, api.ErrForm)
		refuses(t, what, list(a, api.Expr{Op: op}), api.ErrForm)
	}
}

// TestPrintLiterals: numbers, texts, lists and names that no text may have.
func TestPrintLiterals(t *testing.T) {
	for _, n := range []int64{-1, -2, math.MinInt64} {
		refuses(t, "a negative number", num(n), api.ErrForm)
		refuses(t, "a negative number inside", node(api.OpNeg, num(n)), api.ErrForm)
	}
	for _, n := range []int64{2, -1, 3, 256, 1 << 32, math.MaxInt64, math.MinInt64} {
		refuses(t, "a Bool that is none", api.Expr{Op: api.OpBool, Num: n}, api.ErrForm)
	}
	refuses(t, "65 bytes", text(strings.Repeat("a", 65)), api.ErrForm)
	refuses(t, "many bytes", text(strings.Repeat("\xff", 1<<20)), api.ErrForm)
	refuses(t, "17 elements", list(times(17, num(1))...), api.ErrForm)
	refuses(t, "many elements", list(times(100000, num(1))...), api.ErrForm)
	refuses(t, "17 elements that are wrong", list(times(17, sym(""))...), api.ErrForm)
	for _, s := range []string{"", "1", "_", "_a", "a b", "a ", " a", "'a", "ä", "a\xff", "msg.a", "a.b", "a-", strings.Repeat("a", 25), strings.Repeat("a", 65)} {
		for _, e := range []api.Expr{attr(s), sym(s), field(s)} {
			refuses(t, strconv.Quote(s), e, api.ErrName)
			refuses(t, strconv.Quote(s)+" inside", node(api.OpAdd, num(1), e), api.ErrName)
		}
	}
	for _, s := range []string{"true", "false", "msg", "len", "at", "push"} {
		refuses(t, "the reserved "+s, attr(s), api.ErrName)
		prints(t, sym(s), "'"+s)
		prints(t, field(s), "msg."+s)
	}
}

// TestPrintFirst: of several errors the first one counts, each node ahead of
// its Args.
func TestPrintFirst(t *testing.T) {
	a, form, name := attr("a"), num(-1), sym("")
	refuses(t, "two Args", node(api.OpAdd, form, name), api.ErrForm)
	refuses(t, "two Args", node(api.OpAdd, name, form), api.ErrName)
	refuses(t, "an Arg and its sister's", node(api.OpAdd, node(api.OpNot, name), form), api.ErrName)
	refuses(t, "a node and its Args", api.Expr{Op: api.OpAdd, Num: 1, Args: []api.Expr{name, name}}, api.ErrForm)
	refuses(t, "a node and its Args", node(api.OpNot, name, name), api.ErrForm)
	refuses(t, "deep inside", node(api.OpNot, node(api.OpNot, list(a, node(api.OpLen, name), form))), api.ErrName)
	// ErrMany is that of the node that is one too many, and no other.
	rows := func(n int, last api.Expr) api.Expr { // n nodes and those of last
		for ; n >= 17; n -= 16 {
			last = list(append(times(15, a), last)...)
		}
		for ; n > 0; n-- {
			last = node(api.OpNot, last)
		}
		return last
	}
	for _, last := range []api.Expr{form, name, {}, text(strings.Repeat("a", 65)), list(times(17, a)...)} {
		refuses(t, "a wrong node behind 200", rows(200, last), api.ErrMany)
	}
	refuses(t, "ErrForm at the last node", rows(199, form), api.ErrForm)
	refuses(t, "ErrName at the last node", rows(199, name), api.ErrName)
	refuses(t, "a wrong node ahead of too many", node(api.OpAnd, name, rows(300, a)), api.ErrName)
	refuses(t, "a wrong node behind too many", node(api.OpAnd, rows(300, a), name), api.ErrMany)
	// ErrDeep comes behind all others.
	deep := rows(0, a)
	for range 30 {
		deep = node(api.OpNeg, deep)
	}
	refuses(t, "too deep", deep, api.ErrDeep)
	refuses(t, "too deep, and a wrong name", list(deep, name), api.ErrName)
	refuses(t, "too deep, and a wrong form", list(deep, form), api.ErrForm)
	refuses(t, "too deep, and too many", list(deep, rows(200, a)), api.ErrMany)
}

func TestPrintMany(t *testing.T) {
	leaves := []api.Expr{attr("a"), num(1), text("x"), sym("x"), field("x"), {Op: api.OpBool}, list()}
	for _, leaf := range leaves {
		row := leaf
		for range 99 {
			row = node(api.OpAdd, row, leaf)
		}
		want(t, "nodes", size(row), 199)
		reads(t, printed(t, row), row)
		full := node(api.OpNeg, row)
		reads(t, printed(t, full), full)
		refuses(t, "201 nodes", node(api.OpAdd, row, leaf), api.ErrMany)
		refuses(t, "201 nodes", node(api.OpNot, full), api.ErrMany)
		refuses(t, "201 nodes", list(full), api.ErrMany)
		refuses(t, "201 nodes", node(api.OpLen, full), api.ErrMany)
	}
	endless := []api.Expr{node(api.OpNot)}
	endless[0].Args = endless
	refuses(t, "a tree within itself", endless[0], api.ErrMany)
	wide := []api.Expr{list()}
	wide[0].Args = slices.Repeat(wide, 16)
	for range 100 {
		wide = slices.Repeat([]api.Expr{list(wide...)}, 16)
	}
	refuses(t, "a tree of a great many nodes", wide[0], api.ErrMany)
	long := attr("a")
	for range 1 << 16 {
		long = node(api.OpNeg, long)
	}
	refuses(t, "a long row", long, api.ErrMany)
}

func printed(t *testing.T, e api.Expr) string {
	t.Helper()
	s, bad := Print(e)
	want(t, "error of Print", bad, api.OK)
	return s
}

// TestPrintDeep: each sort of construct as the last that may be open, and as
// the one that may not.
func TestPrintDeep(t *testing.T) {
	a, b := attr("a"), attr("b")
	wraps := []func(e api.Expr) api.Expr{
		func(e api.Expr) api.Expr { return list(e) },
		func(e api.Expr) api.Expr { return list(b, e) },
		func(e api.Expr) api.Expr { return node(api.OpLen, e) },
		func(e api.Expr) api.Expr { return node(api.OpAt, e, b) },
		func(e api.Expr) api.Expr { return node(api.OpAt, b, e) },
		func(e api.Expr) api.Expr { return node(api.OpPush, e, b) },
		func(e api.Expr) api.Expr { return node(api.OpPush, b, e) },
		func(e api.Expr) api.Expr { return node(api.OpNot, e) },
		func(e api.Expr) api.Expr { return node(api.OpNeg, e) },
	}
	for i := range wraps {
		for step := range 2 { // of one sort, or mixed
			e := a
			for n := range 20 {
				e = wraps[(i+n*step)%len(wraps)](e)
			}
			reads(t, printed(t, e), e)
			for _, wrap := range wraps {
				refuses(t, "21 open", wrap(e), api.ErrDeep)
			}
			ended := node(api.OpAdd, e, e)
			reads(t, printed(t, ended), ended)
		}
	}
	e := list()
	for range 19 {
		e = node(api.OpNot, e)
	}
	reads(t, printed(t, e), e)
	refuses(t, "an empty list as the 21st", node(api.OpNot, e), api.ErrDeep)
}

// TestPrintDeepText: parens count, though no node of the tree opens them.
func TestPrintDeepText(t *testing.T) {
	a := attr("a")
	for _, o := range binaries() {
		if o.turned {
			continue
		}
		right, left := a, a
		for n := range 40 {
			right, left = node(o.op, a, right), node(o.op, left, a)
			if n <= 20 {
				reads(t, printed(t, right), right)
			} else {
				refuses(t, "parens to the right of "+o.sign, right, api.ErrDeep)
			}
			if n <= 20 || o.level != 3 {
				reads(t, printed(t, left), left)
			} else {
				refuses(t, "parens to the left of "+o.sign, left, api.ErrDeep)
			}
		}
	}
	both := a
	for range 10 { // a sign and a paren each
		both = node(api.OpNeg, node(api.OpAdd, both, a))
	}
	reads(t, printed(t, both), both)
	refuses(t, "one more sign", node(api.OpNeg, both), api.ErrDeep)
	refuses(t, "one more paren", node(api.OpNot, node(api.OpOr, both, a)), api.ErrDeep)
}
