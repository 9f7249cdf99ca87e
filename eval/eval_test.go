package eval

import (
	"strings"
	"testing"

	"switchyard/api"
	"switchyard/expr"
	"switchyard/value"
)

func want[T comparable](t *testing.T, what string, got, wanted T) {
	t.Helper()
	if got != wanted {
		t.Errorf("%s: got %#v, want %#v", what, got, wanted)
	}
}

func num(n int64) api.Value     { return api.Value{Kind: api.Int, Num: n} }
func text(s string) api.Value   { return api.Value{Kind: api.Text, Text: s} }
func sym(s string) api.Value    { return api.Value{Kind: api.Sym, Text: s} }
func list(l ...int64) api.Value { return api.Value{Kind: api.List, List: l} }

func yes() api.Value { return api.Value{Kind: api.Bool, Num: 1} }
func no() api.Value  { return api.Value{Kind: api.Bool} }

func attr(s string) api.Expr  { return api.Expr{Op: api.OpAttr, Text: s} }
func field(s string) api.Expr { return api.Expr{Op: api.OpField, Text: s} }

func tree(op int, args ...api.Expr) api.Expr { return api.Expr{Op: op, Args: args} }

// env has the attributes a, b and so on with these values.
func env(vals ...api.Value) Env {
	v := Env{Vals: vals}
	for i := range vals {
		v.Attrs = append(v.Attrs, api.Attr{Name: string(rune('a' + i))})
	}
	return v
}

func read(t *testing.T, s string) api.Expr {
	t.Helper()
	e, _, bad := expr.Read(s)
	want(t, "error of Read of "+s, bad, api.OK)
	return e
}

// comes checks the value of a tree.
func comes(t *testing.T, what string, e api.Expr, v Env, wanted api.Value) {
	t.Helper()
	got, bad := Of(e, v)
	want(t, "error of "+what, bad, api.OK)
	want(t, "value of "+what, value.Print(got), value.Print(wanted))
	want(t, "a valid value of "+what, value.Right(got), true)
}

// fails checks that a tree has no value, but an error.
func fails(t *testing.T, what string, e api.Expr, v Env, wanted api.Errno) {
	t.Helper()
	got, bad := Of(e, v)
	want(t, "error of "+what, bad, wanted)
	if !value.Same(got, api.Value{}) {
		t.Errorf("beside the error of %s: got %v", what, got)
	}
}

// TestExamples: the chapter's own.
func TestExamples(t *testing.T) {
	fails(t, "1 / 0", read(t, "1 / 0"), Env{}, api.ErrZero)
	comes(t, "false && ..", read(t, "false && 1 / 0 == 1"), Env{}, no())
	fails(t, "too little", read(t, "-9223372036854775807 - 2"), Env{}, api.ErrOver)
	comes(t, "-7 % 2", read(t, "-7 % 2"), Env{}, num(-1))
}

func TestLiterals(t *testing.T) {
	for s, wanted := range map[string]api.Value{
		"0":                   num(0),
		"7":                   num(7),
		"9223372036854775807": num(1<<63 - 1),
		"true":                yes(),
		"false":               no(),
		`""`:                  text(""),
		`"a \" \x00\xff"`:     text("a \" \x00\xff"),
		"'a":                  sym("a"),
		"'true":               sym("true"),
		"[]":                  list(),
		"[3]":                 list(3),
		"[3, -1, 0]":          list(3, -1, 0),
		"[1 + 2, len([4])]":   list(3, 1),
	} {
		comes(t, s, read(t, s), Env{}, wanted)
	}
	long := strings.Repeat("\xff", api.MaxText)
	comes(t, "a long text", api.Expr{Op: api.OpText, Text: long}, Env{}, text(long))
}

// samples are values of each kind.
func samples() []api.Value {
	return []api.Value{
		num(0), num(1), num(-1), num(1<<63 - 1), num(-1 << 63),
		no(), yes(),
		text(""), text("a"), text("ab"), text("\xff"),
		sym("a"), sym("b"), sym("ab"),
		list(), list(0), list(1), list(1, 2), list(0, 0, 0, 0, 0, 0, 0, 0, 0, 0, 0, 0, 0, 0, 0, 0),
	}
}

// takes reports whether an Op may have operands of these kinds; as the chapter
// has them.
func takes(op, a, b int) bool {
	switch op {
	case api.OpNot:
		return a == api.Bool
	case api.OpAnd, api.OpOr:
		return a == api.Bool && b == api.Bool
	case api.OpNeg:
		return a == api.Int
	case api.OpLen:
		return a == api.List || a == api.Text
	case api.OpAt, api.OpPush:
		return a == api.List && b == api.Int
	case api.OpEq, api.OpNe:
		return a == b
	case api.OpLt, api.OpLe:
		return a == b && (a == api.Int || a == api.Text)
	}
	return a == api.Int && b == api.Int
}

func ones() []int { return []int{api.OpNot, api.OpNeg, api.OpLen} }

func twos() []int {
	return []int{
		api.OpMul, api.OpDiv, api.OpRem, api.OpAdd, api.OpSub, api.OpAt, api.OpPush,
		api.OpEq, api.OpNe, api.OpLt, api.OpLe, api.OpAnd, api.OpOr,
	}
}

// printed is the text of a tree.
func printed(e api.Expr) string {
	s, _ := expr.Print(e)
	return s
}

// TestKinds: each Op with operands of each kind. Where they are wrong, that is
// the error, whatever else is wrong.
func TestKinds(t *testing.T) {
	for _, a := range samples() {
		for _, op := range ones() {
			e, v := tree(op, attr("a")), env(a)
			got, bad := Of(e, v)
			what := printed(e) + " of " + value.Print(a)
			want(t, "wrong kind in "+what, bad == api.ErrKind, !takes(op, a.Kind, 0))
			want(t, "valid: "+what, value.Right(got), true)
		}
		for _, b := range samples() {
			for _, op := range twos() {
				e, v := tree(op, attr("a"), attr("b")), env(a, b)
				determined := op == api.OpAnd && value.Same(a, no()) || op == api.OpOr && value.Same(a, yes())
				got, bad := Of(e, v)
				what := printed(e) + " of " + value.Print(a) + " and " + value.Print(b)
				want(t, "wrong kind in "+what, bad == api.ErrKind, !takes(op, a.Kind, b.Kind) && !determined)
				want(t, "valid: "+what, value.Right(got), true)
				if bad != api.OK {
					want(t, "value beside the error of "+what, value.Same(got, api.Value{}), true)
				}
			}
		}
	}
}

func TestBools(t *testing.T) {
	for s, wanted := range map[string]bool{
		"!true": false, "!false": true, "!!true": true, "!!false": false,
		"true && true": true, "true && false": false, "false && true": false, "false && false": false,
		"true || true": true, "true || false": true, "false || true": true, "false || false": false,
		"false || false || true": true, "true && true && false": false, "false && true || true": true,
		"!(1 == 2) && (2 == 2 || 1 == 2)": true,
	} {
		e, wantedValue := read(t, s), no()
		if wanted {
			wantedValue = yes()
		}
		comes(t, s, e, Env{}, wantedValue)
		got, bad := Holds(e, Env{})
		want(t, "Holds of "+s, got, wanted)
		want(t, "error of Holds of "+s, bad, api.OK)
	}
}

// TestCompare: each two values, for all comparisons.
func TestCompare(t *testing.T) {
	rows := [][]api.Value{ // each in its order
		{num(-1 << 63), num(-1<<63 + 1), num(-2), num(-1), num(0), num(1), num(2), num(1<<63 - 2), num(1<<63 - 1)},
		{text(""), text("\x00"), text("\x00a"), text("A"), text("a"), text("a\x00"), text("aa"), text("ab"), text("b"), text("\x7f"), text("\x80"), text("\xff"), text("\xff\xff")},
		{no(), yes()},
		{sym("a"), sym("ab"), sym("b")},
		{list(), list(0), list(0, 0), list(1), list(1, 0), list(1, 1)},
	}
	bool2value := func(b bool) api.Value {
		if b {
			return yes()
		}
		return no()
	}
	for _, row := range rows {
		ordered := row[0].Kind == api.Int || row[0].Kind == api.Text
		for i, a := range row {
			for j, b := range row {
				v := env(a, b)
				what := value.Print(a) + " and " + value.Print(b)
				for op, wanted := range map[int]bool{api.OpEq: i == j, api.OpNe: i != j, api.OpLt: i < j, api.OpLe: i <= j} {
					e := tree(op, attr("a"), attr("b"))
					if !ordered && (op == api.OpLt || op == api.OpLe) {
						fails(t, printed(e)+" of "+what, e, v, api.ErrKind)
					} else {
						comes(t, printed(e)+" of "+what, e, v, bool2value(wanted))
					}
				}
			}
		}
	}
	for s, wanted := range map[string]api.Value{
		"'a == 'b": no(), "'a != 'b": yes(), "'a == 'a": yes(), "[1, 2] == [1, 2]": yes(), "[1, 2] != [2, 1]": yes(),
		"1 < 2": yes(), "2 > 1": yes(), "1 >= 2": no(), "2 <= 2": yes(), `"a" < "ab"`: yes(), `"ab" <= "a"`: no(), "true == (1 == 1)": yes(),
	} {
		comes(t, s, read(t, s), Env{}, wanted)
	}
	for _, s := range []string{`"a" == 'a`, "1 == true", "0 != false", "[] == 0", "[1] != 1", `"1" == 1`, `"" != []`, "true < false", "'a < 'b", "[1] <= [2]", "1 < \"a\"", "\"a\" <= 1"} {
		fails(t, s, read(t, s), Env{}, api.ErrKind)
	}
}
