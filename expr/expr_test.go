package expr

import (
	"slices"
	"strconv"
	"strings"
	"testing"

	"switchyard/api"
)

func want[T comparable](t *testing.T, what string, got, wanted T) {
	t.Helper()
	if got != wanted {
		t.Errorf("%s: got %#v, want %#v", what, got, wanted)
	}
}

func num(n int64) api.Expr    { return api.Expr{Op: api.OpInt, Num: n} }
func attr(s string) api.Expr  { return api.Expr{Op: api.OpAttr, Text: s} }
func field(s string) api.Expr { return api.Expr{Op: api.OpField, Text: s} }
func text(s string) api.Expr  { return api.Expr{Op: api.OpText, Text: s} }
func sym(s string) api.Expr   { return api.Expr{Op: api.OpSym, Text: s} }

func node(op int, args ...api.Expr) api.Expr { return api.Expr{Op: op, Args: args} }

func list(l ...api.Expr) api.Expr { return node(api.OpList, l...) }

// times is an expression so many times.
func times(n int, e api.Expr) []api.Expr { return slices.Repeat([]api.Expr{e}, n) }

func same(a, b api.Expr) bool {
	return a.Op == b.Op && a.Num == b.Num && a.Text == b.Text && slices.EqualFunc(a.Args, b.Args, same)
}

func size(e api.Expr) int {
	n := 1
	for _, a := range e.Args {
		n += size(a)
	}
	return n
}

// reads checks that a source is read as this tree.
func reads(t *testing.T, s string, wanted api.Expr) {
	t.Helper()
	got, at, bad := Read(s)
	quoted := strconv.Quote(s)
	want(t, "error of "+quoted, bad, api.OK)
	want(t, "offset of "+quoted, at, 0)
	if !same(got, wanted) {
		t.Errorf("tree of %s: got %v, want %v", quoted, got, wanted)
	}
}

// fails checks that a source has no tree, but an error at an offset.
func fails(t *testing.T, s string, at int, bad api.Errno) {
	t.Helper()
	got, gotAt, gotBad := Read(s)
	quoted := strconv.Quote(s)
	want(t, "error of "+quoted, gotBad, bad)
	want(t, "offset of "+quoted, gotAt, at)
	want(t, "no tree of "+quoted, same(got, api.Expr{}) && got.Args == nil, true)
}

// binary is an operator between two operands: its level counts from the
// loosest one on.
type binary struct {
	sign   string
	op     int
	level  int
	turned bool
}

func binaries() []binary {
	return []binary{
		{"||", api.OpOr, 1, false},
		{"&&", api.OpAnd, 2, false},
		{"==", api.OpEq, 3, false}, {"!=", api.OpNe, 3, false},
		{"<", api.OpLt, 3, false}, {"<=", api.OpLe, 3, false},
		{">", api.OpLt, 3, true}, {">=", api.OpLe, 3, true},
		{"+", api.OpAdd, 4, false}, {"-", api.OpSub, 4, false},
		{"*", api.OpMul, 5, false}, {"/", api.OpDiv, 5, false}, {"%", api.OpRem, 5, false},
	}
}

func (b binary) tree(left, right api.Expr) api.Expr {
	if b.turned {
		left, right = right, left
	}
	return node(b.op, left, right)
}

func TestPrimaries(t *testing.T) {
	for s, e := range map[string]api.Expr{
		"0":                   num(0),
		"7":                   num(7),
		"9223372036854775807": num(9223372036854775807),
		`""`:                  text(""),
		`"a\"\x0a"`:           text("a\"\n"),
		"'red":                sym("red"),
		"true":                {Op: api.OpBool, Num: 1},
		"false":               {Op: api.OpBool},
		"a":                   attr("a"),
		"none":                attr("none"),
		"True":                attr("True"),
		"lens":                attr("lens"),
		"Z_9":                 attr("Z_9"),
		"on":                  attr("on"),
		"msg.a":               field("a"),
		"msg . a //b\n":       field("a"),
		"[]":                  list(),
		"[1]":                 list(num(1)),
		"[a, 'b, [ ]]":        list(attr("a"), sym("b"), list()),
		"[a || b, (c)]":       list(node(api.OpOr, attr("a"), attr("b")), attr("c")),
		"len(a)":              node(api.OpLen, attr("a")),
		"at(a, 1)":            node(api.OpAt, attr("a"), num(1)),
		"push([], 1)":         node(api.OpPush, list(), num(1)),
		"len(a || b)":         node(api.OpLen, node(api.OpOr, attr("a"), attr("b"))),
		"at(a < b,\n c == d)": node(api.OpAt, node(api.OpLt, attr("a"), attr("b")), node(api.OpEq, attr("c"), attr("d"))),
		"push(len(a),at(b,c))": node(api.OpPush, node(api.OpLen, attr("a")),
			node(api.OpAt, attr("b"), attr("c"))),
	} {
		reads(t, s, e)
		reads(t, "("+s+"\n)", e)
		reads(t, "(( "+s+" ))", e)
		reads(t, "!"+s, node(api.OpNot, e))
		reads(t, "-"+s, node(api.OpNeg, e))
		reads(t, "["+s+","+s+"]", list(e, e))
	}
}

// TestLevels: two operators, which the levels put together.
func TestLevels(t *testing.T) {
	a, b, c := attr("a"), attr("b"), attr("c")
	for _, o := range binaries() {
		reads(t, "a"+o.sign+"b", o.tree(a, b))
		reads(t, "(a)\n"+o.sign+" (b)", o.tree(a, b))
		for _, p := range binaries() {
			begin := "a " + o.sign + " b "
			s := begin + p.sign + " c"
			reads(t, "(a "+o.sign+" b) "+p.sign+" c", p.tree(o.tree(a, b), c))
			reads(t, "a "+o.sign+" (b "+p.sign+" c)", o.tree(a, p.tree(b, c)))
			switch {
			case o.level == 3 && p.level == 3:
				fails(t, s, len(begin), api.ErrSyntax)
				fails(t, "("+s+")", 1+len(begin), api.ErrSyntax)
				fails(t, "["+s+"]", 1+len(begin), api.ErrSyntax)
			case o.level >= p.level:
				reads(t, s, p.tree(o.tree(a, b), c))
			default:
				reads(t, s, o.tree(a, p.tree(b, c)))
			}
		}
	}
}

// TestManyLevels: longer rows of operators, to the left.
func TestManyLevels(t *testing.T) {
	for s, parted := range map[string]string{
		"a - b - c - d":                  "((a - b) - c) - d",
		"a / b * c % d":                  "((a / b) * c) % d",
		"a || b || c || d":               "((a || b) || c) || d",
		"a && b && c && d":               "((a && b) && c) && d",
		"a + b * c - d / e + f":          "((a + (b * c)) - (d / e)) + f",
		"a || b && c || d && e":          "(a || (b && c)) || (d && e)",
		"a < b && c >= d || e != f":      "((a < b) && (c >= d)) || (e != f)",
		"a * b + c < d - e % f":          "((a * b) + c) < (d - (e % f))",
		"a + 1 == b * 2 && !c || -d > 3": "(((a + 1) == (b * 2)) && (!c)) || ((-d) > 3)",
		"a == b && c == d && e == f":     "((a == b) && (c == d)) && (e == f)",
		"a == b || c == d || e == f":     "((a == b) || (c == d)) || (e == f)",
		"!a && !!b || !c":                "((!a) && (!(!b))) || (!c)",
		"-a * -b - -c":                   "((-a) * (-b)) - (-c)",
		"- - a - - - b":                  "(-(-a)) - (-(-b))",
		"!a == !b":                       "(!a) == (!b)",
		"-a < -b":                        "(-a) < (-b)",
		"-msg.a + msg.b":                 "(-(msg.a)) + (msg.b)",
		"-len(a) * -at(b, 1)":            "(-(len(a))) * (-(at(b, 1)))",
		"a > b && b > c":                 "(a > b) && (b > c)",
		"a + b > c * d":                  "(a + b) > (c * d)",
		"-a >= !b":                       "(-a) >= (!b)",
		"at(a - b - c, d / e / f)":       "at((a - b) - c, (d / e) / f)",
		"[a - b - c, d || e && f]":       "[(a - b) - c, d || (e && f)]",
		"((a) - (((b)))) - c":            "(a - b) - c",
		"a - ((b) - c)":                  "a - (b - c)",
		"a - // b\n c //":                "a - c",
		"a*(b+c)*d":                      "(a * (b + c)) * d",
		"(a<b)<(c<d)":                    "(a < b) < (c < d)",
		"a + 2 * -b > len([1, 2])":       "(a + (2 * (-b))) > (len([1, 2]))",
	} {
		e, _, bad := Read(parted)
		want(t, parted, bad, api.OK)
		reads(t, s, e)
	}
	reads(t, "a + 2 * -b > len([1, 2])", node(api.OpLt, node(api.OpLen, list(num(1), num(2))),
		node(api.OpAdd, attr("a"), node(api.OpMul, num(2), node(api.OpNeg, attr("b"))))))
	reads(t, "a > b", node(api.OpLt, attr("b"), attr("a")))
	reads(t, "a >= b", node(api.OpLe, attr("b"), attr("a")))
}

// TestSyntax: a source, and the offset of the first token that may not be there.
func TestSyntax(t *testing.T) {
	for s, at := range map[string]int{
		"": 0, " ": 1, "// a": 4, "a b": 2, "a 1": 2, "1 2": 2, "a 'b": 2, `a "b"`: 2, "a (b)": 2, "a [b]": 2, "a !b": 2, "a true": 2,
		"a +": 3, "a + ": 4, "a + * b": 4, "+ a": 0, "* a": 0, "a - + b": 4, "a ! b": 2, "a !": 2, "a ||": 4, "a && || b": 5, "== a": 0, "!": 1, "-": 1, "! - !": 5, "!)": 1,
		"a < b < c": 6, "a == b != c": 7, "a > b >= c": 6, "a == b == c && d": 7, "(a < b < c)": 7, "len(a < b < c)": 10,
		"(": 1, "()": 1, ")": 0, "(a": 2, "(a b": 3, "(a,": 2, "(a]": 2, "((a)": 4, "(a))": 3, "(a) b": 4,
		"[": 1, "]": 0, "[a": 2, "[a b]": 3, "[a,]": 3, "[a,": 3, "[,]": 1, "[,a]": 1, "[a,,b]": 3, "[a)": 2, "[a]]": 3, "[a;b]": 2, "[a] [b]": 4,
		"len": 3, "len a": 4, "len + a": 4, "len.a": 3, "len 1": 4, "len [a]": 4, "len)": 3, "(len)": 4, "len()": 4, "len(": 4, "len(a": 5, "len(a,": 5, "len(a, b)": 5, "len(a b)": 6, "len(,)": 4, "len(a]": 5,
		"at": 2, "at a": 3, "at == a": 3, "at()": 3, "at(a)": 4, "at(a,)": 5, "at(a, b, c)": 7, "at(a, b": 7, "at(a b)": 5, "at(, b)": 3, "at[a, b]": 2, "at(a, b,)": 7, "at(a; b)": 4,
		"push": 4, "push, a": 4, "push()": 5, "push(a)": 6, "push(a, b, c)": 9, "push(a, b]": 9, "push(a, b": 9, "push(a,": 7, "- push": 6,
		"msg": 3, "msg a": 4, "msg.": 4, "msg.1": 4, "msg.'a": 4, `msg."a"`: 4, "msg..a": 3, "msg.(a)": 4, "msg.a.b": 5, "msg.-a": 4, "a.b": 1, "msg + a": 4, "msg(a)": 3, "[msg]": 4, "true.a": 4, ".a": 0,
		"true false": 5, "true(a)": 4, "false[a]": 5, "a(b)": 1, "a;": 1, "a = b": 2, "{a}": 0, "a..b": 1, "a -> b": 2, "a : b": 2, "a, b": 1, "a + (b": 6, "a == (b < c)) && d": 12,
	} {
		fails(t, s, at, api.ErrSyntax)
		fails(t, " \n"+s, 2+at, api.ErrSyntax)
	}
	fails(t, "a + // b\n )", 10, api.ErrSyntax)
	fails(t, "a\n\t+\n\t\t+ b", 7, api.ErrSyntax)
}

// TestScan: an error of Scan goes ahead of all others.
func TestScan(t *testing.T) {
	fails(t, "#", 0, api.ErrToken)
	fails(t, "a + 01", 4, api.ErrToken)
	fails(t, "a b #", 4, api.ErrToken)
	fails(t, ") '", 2, api.ErrToken)
	fails(t, strings.Repeat("(", 21)+"#", 21, api.ErrToken)
	fails(t, strings.Repeat("a+", 200)+"\"", 400, api.ErrToken)
	fails(t, strings.Repeat(" ", 8000)+"a", 0, api.ErrLong)
	fails(t, strings.Repeat("+", 8001), 0, api.ErrLong)
	fails(t, strings.Repeat("+", 8000), 0, api.ErrSyntax)
	reads(t, strings.Repeat(" ", 7999)+"a", attr("a"))
}

func TestReserved(t *testing.T) {
	reserved := []string{"true", "false", "msg", "len", "at", "push"}
	for _, s := range reserved {
		want(t, s, Taken(s), true)
		reads(t, "msg."+s, field(s))
		reads(t, "-msg."+s+" + msg . "+s, node(api.OpAdd, node(api.OpNeg, field(s)), field(s)))
		reads(t, "'"+s, sym(s))
		reads(t, `"`+s+`"`, text(s))
		for _, other := range []string{strings.ToUpper(s), s + "s", s[1:], s[:len(s)-1], s + "_", " " + s, s + " ", s + "\x00", "'" + s, "msg." + s} {
			want(t, other, Taken(other), slices.Contains(reserved, other))
		}
	}
	for _, s := range []string{"", "a", "none", "in", "on", "by", "push(", "truefalse", "lenatpush", "set", "not", strings.Repeat("len", 1000)} {
		want(t, s, Taken(s), false)
	}
	for _, s := range []string{"len", "at", "push", "msg"} {
		fails(t, s, len(s), api.ErrSyntax)
		fails(t, s+" == 1", 1+len(s), api.ErrSyntax)
		fails(t, "1 == "+s, 5+len(s), api.ErrSyntax)
		fails(t, "["+s+"]", 1+len(s), api.ErrSyntax)
	}
}

func TestLists(t *testing.T) {
	elements := func(n int, s string) string { return strings.TrimSuffix(strings.Repeat(s+",", n), ",") }
	for _, n := range []int{0, 1, 2, 15, 16} {
		reads(t, "["+elements(n, "a")+"]", list(times(n, attr("a"))...))
		reads(t, "["+elements(n, "-1")+"]", list(times(n, node(api.OpNeg, num(1)))...))
		reads(t, "["+elements(n, "[]")+"]", list(times(n, list())...))
		reads(t, "[["+elements(n, "a")+"],["+elements(n, "b")+"]]", list(list(times(n, attr("a"))...), list(times(n, attr("b"))...)))
	}
	full := elements(16, "a")
	for _, s := range []string{"a", "1", "!a", "-1", "(a)", "[a]", "[]", "len(a)", "at(a, b)", "push()", "msg.a", "msg", "len", `"a"`, "'a", "true", "a b"} {
		fails(t, "["+full+", "+s+"]", 34, api.ErrMany)
		fails(t, "["+full+", "+s+", a]", 34, api.ErrMany)
		fails(t, "!(a + ["+full+", "+s, 40, api.ErrMany)
	}
	fails(t, "["+elements(1000, "a")+"]", 33, api.ErrMany)
	fails(t, "["+full+" a]", 33, api.ErrSyntax)
	fails(t, "["+full, 32, api.ErrSyntax)
	fails(t, "[["+full+"],["+full+",a]]", 68, api.ErrMany)
}
