package eval

import (
	"slices"
	"strings"
	"testing"

	"switchyard/api"
	"switchyard/expr"
)

// unprintable are trees that Print refuses, with its errors.
func unprintable() map[api.Errno][]api.Expr {
	deep, wide := attr("a"), attr("a")
	for range api.MaxDeep + 1 {
		deep = tree(api.OpLen, deep)
	}
	for range api.MaxNodes / 2 {
		wide = tree(api.OpAdd, wide, attr("a"))
	}
	within := tree(api.OpNot, attr("a"))
	within.Args[0] = within
	return map[api.Errno][]api.Expr{
		api.ErrMany: {wide, within},
		api.ErrForm: {
			{Op: 99}, {Op: -1}, {Op: api.OpInt, Num: -1}, {Op: api.OpInt, Text: "1"}, {Op: api.OpBool, Num: 2},
			{Op: api.OpText, Text: strings.Repeat("a", 65)}, {Op: api.OpAttr, Text: "a", Num: 1}, tree(api.OpNot), tree(api.OpNot, attr("a"), attr("a")),
			tree(api.OpAdd, attr("a")), tree(api.OpAnd, attr("a")), tree(api.OpOr), tree(api.OpAt, attr("a"), attr("a"), attr("a")),
			tree(api.OpList, slices.Repeat([]api.Expr{attr("a")}, 17)...), tree(api.OpAnd, attr("a"), api.Expr{}),
		},
		api.ErrName: {attr(""), attr("1"), attr("len"), attr("a b"), field(""), field("_"), {Op: api.OpSym}, {Op: api.OpSym, Text: strings.Repeat("a", 25)}},
		api.ErrDeep: {deep},
	}
}

// TestPrint: what Print refuses has its error, whatever else is wrong, and
// wherever it is.
func TestPrint(t *testing.T) {
	vals := []Env{{}, env(num(1)), env(yes()), env(no()), env(api.Value{})}
	wrong := func(what string, e api.Expr, bad api.Errno) {
		t.Helper()
		_, printBad := expr.Print(e)
		want(t, "error of Print of "+what, printBad, bad)
		for _, v := range vals {
			fails(t, what, e, v, bad)
			got, gotBad := Holds(e, v)
			want(t, "error of Holds of "+what, gotBad, bad)
			want(t, "Holds of "+what, got, false)
		}
	}
	for bad, trees := range unprintable() {
		for _, e := range trees {
			wrong("a tree", e, bad)
			for _, ahead := range []string{"q", "msg.q", "1 / 0", "true", "false", "1", "-true"} {
				for _, op := range twos() {
					wrong("a tree behind "+ahead, tree(op, read(t, ahead), e), bad)
				}
				wrong("a tree in a list behind "+ahead, tree(api.OpList, read(t, ahead), e), bad)
			}
			wrong("a tree of a tree", tree(api.OpNot, e), bad)
		}
	}
	fails(t, "no Op", api.Expr{}, Env{}, api.ErrForm)
	fails(t, "no Op, but more", api.Expr{Num: 1, Text: "a", Args: []api.Expr{attr("a")}}, env(yes()), api.ErrForm)
}

// failing are trees without a value, with their errors.
func failing() map[string]api.Errno {
	return map[string]api.Errno{
		"q": api.ErrNone, "msg.q": api.ErrNone, "-true": api.ErrKind, "9223372036854775807 + 1": api.ErrOver, "1 / 0": api.ErrZero, "at([], 0)": api.ErrPlace,
	}
}

// TestFirst: of two operands that fail, the first one's error; and the error of
// an operand ahead of that of its node.
func TestFirst(t *testing.T) {
	for s, bad := range failing() {
		e := read(t, s)
		for _, op := range ones() {
			fails(t, "one operand, "+s, tree(op, e), Env{}, bad)
		}
		for _, op := range twos() {
			for other, otherBad := range failing() {
				fails(t, s+" ahead of "+other, tree(op, e, read(t, other)), Env{}, bad)
				fails(t, other+" ahead of "+s, tree(op, read(t, other), e), Env{}, otherBad)
			}
			for _, right := range []string{"1", "true", "false", `"a"`, "'a", "[]", "[1]"} {
				fails(t, s+" ahead of "+right, tree(op, e, read(t, right)), Env{}, bad)
				if op != api.OpAnd && op != api.OpOr { // kinds are looked at when both have values
					fails(t, s+" behind "+right, tree(op, read(t, right), e), Env{}, bad)
				}
			}
		}
		for other, otherBad := range failing() {
			fails(t, "a list", tree(api.OpList, e, read(t, "1"), read(t, other)), Env{}, bad)
			fails(t, "a list", tree(api.OpList, read(t, "true"), read(t, other), e), Env{}, otherBad)
			fails(t, "parts within parts", tree(api.OpAdd, tree(api.OpMul, read(t, "true"), e), read(t, other)), Env{}, bad)
			fails(t, "parts within parts", tree(api.OpAdd, tree(api.OpMul, read(t, "true"), read(t, "1")), e), Env{}, api.ErrKind)
		}
	}
	// An ErrKind of a node goes ahead of its other errors.
	for _, s := range []string{"true / 0", "true % 0", `"a" / 0`, "[] % 0", "1 / false", "at([], true)", "at(1, -1)", "at(\"\", 0)", "push([1, 1, 1, 1, 1, 1, 1, 1, 1, 1, 1, 1, 1, 1, 1, 1], true)", "push(1, 1)", "-9223372036854775807 - true"} {
		fails(t, s, read(t, s), Env{}, api.ErrKind)
	}
}

// TestDetermined: a second operand that counts for nothing, or does.
func TestDetermined(t *testing.T) {
	seconds := map[string]api.Errno{"1": api.ErrKind, `"a"`: api.ErrKind, "'a": api.ErrKind, "[]": api.ErrKind}
	for s, bad := range failing() {
		seconds[s] = bad
		seconds["!("+s+")"] = bad
		seconds["true && ("+s+")"] = bad
		seconds["false || ("+s+")"] = bad
	}
	for s, bad := range seconds {
		second := read(t, s)
		comes(t, "false && "+s, tree(api.OpAnd, read(t, "false"), second), Env{}, no())
		comes(t, "true || "+s, tree(api.OpOr, read(t, "true"), second), Env{}, yes())
		fails(t, "true && "+s, tree(api.OpAnd, read(t, "true"), second), Env{}, bad)
		fails(t, "false || "+s, tree(api.OpOr, read(t, "false"), second), Env{}, bad)
		for _, first := range []string{"1", "0", `"a"`, `""`, "'true", "[]"} { // no Bool, which is seen first
			for _, op := range []int{api.OpAnd, api.OpOr} {
				fails(t, first+" ahead of "+s, tree(op, read(t, first), second), Env{}, api.ErrKind)
			}
		}
		for first, firstBad := range failing() {
			for _, op := range []int{api.OpAnd, api.OpOr} {
				fails(t, first+" ahead of "+s, tree(op, read(t, first), second), Env{}, firstBad)
			}
		}
	}
	for s, wanted := range map[string]api.Value{
		"false && q || true": yes(), "(true || q) && true": yes(), "false && (q || true)": no(), "true || q && q": yes(), "false && q && q": no(), "true || q || q": yes(),
		"!(true || 1 / 0 == 1) || false": no(), "true && (true || q)": yes(), "len([]) == 0 || at([], 0) == 1": yes(), "len([]) > 0 && at([], 0) == 1": no(),
	} {
		comes(t, s, read(t, s), Env{}, wanted)
	}
}

func TestHolds(t *testing.T) {
	v := env(yes(), no(), num(1), api.Value{})
	for _, e := range []api.Expr{{}, {Num: 5}, {Text: "a"}, {Args: []api.Expr{attr("q"), {Op: 99}}}} {
		got, bad := Holds(e, v)
		want(t, "without an Op", got, true)
		want(t, "error without an Op", bad, api.OK)
	}
	for s, wanted := range map[string]bool{"a": true, "b": false, "!b": true, "a && b": false, "c == 1": true, "c < 1": false, "true": true, "false": false} {
		got, bad := Holds(read(t, s), v)
		want(t, "Holds of "+s, got, wanted)
		want(t, "error of Holds of "+s, bad, api.OK)
	}
	wrong := failing()
	for _, s := range []string{"c", "1", "0", `"true"`, "'true", "[]", "[1]", "c + 1", "len([])"} {
		wrong[s] = api.ErrKind
	}
	wrong["d"] = api.ErrNone
	for s, wantedBad := range wrong {
		got, bad := Holds(read(t, s), v)
		want(t, "Holds of "+s, got, false)
		want(t, "error of Holds of "+s, bad, wantedBad)
	}
}
