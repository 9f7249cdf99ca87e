package eval

import (
	"math"
	"math/big"
	"slices"
	"strconv"
	"strings"
	"testing"

	"switchyard/api"
	"switchyard/value"
)

// edges are numbers next to those at which something changes.
func edges() []int64 {
	out := []int64{0, 5, 7, 1000003}
	for shift := range 63 {
		n := int64(1) << shift
		out = append(out, n-1, n, n+1)
	}
	for _, n := range []int64{math.MaxInt64, math.MaxInt64 - 1, math.MaxInt64 / 2, math.MaxInt64 / 3, math.MaxInt64 / 7, 3037000499, 3037000500} {
		out = append(out, n)
	}
	for _, n := range slices.Clone(out) {
		out = append(out, -n)
	}
	out = append(out, math.MinInt64, math.MinInt64+1, math.MinInt64/3, math.MinInt64/7)
	slices.Sort(out)
	return slices.Compact(out)
}

// exactly returns the number that an operator makes, however great it is.
func exactly(op int, a, b int64) *big.Int {
	out, x, y := new(big.Int), big.NewInt(a), big.NewInt(b)
	switch op {
	case api.OpNeg:
		return out.Neg(x)
	case api.OpAdd:
		return out.Add(x, y)
	case api.OpSub:
		return out.Sub(x, y)
	case api.OpMul:
		return out.Mul(x, y)
	case api.OpDiv:
		return out.Quo(x, y)
	}
	return out.Rem(x, y)
}

// computes checks what an operator makes of one or two numbers.
func computes(t *testing.T, e api.Expr, a, b int64) {
	t.Helper()
	v := env(num(a), num(b))
	what := printed(e) + " of " + strconv.FormatInt(a, 10) + " and " + strconv.FormatInt(b, 10)
	if b == 0 && (e.Op == api.OpDiv || e.Op == api.OpRem) {
		fails(t, what, e, v, api.ErrZero)
		return
	}
	wanted := exactly(e.Op, a, b)
	if !wanted.IsInt64() {
		fails(t, what, e, v, api.ErrOver)
		return
	}
	comes(t, what, e, v, num(wanted.Int64()))
}

// TestEdges: numbers at the edges, each with each.
func TestEdges(t *testing.T) {
	all := edges()
	for _, a := range all {
		computes(t, tree(api.OpNeg, attr("a")), a, 0)
		for _, b := range all {
			for _, op := range []int{api.OpMul, api.OpDiv, api.OpRem, api.OpAdd, api.OpSub} {
				computes(t, tree(op, attr("a"), attr("b")), a, b)
			}
		}
	}
}

// TestAround: results at the least and the greatest number, and one beyond.
func TestAround(t *testing.T) {
	least, greatest := int64(math.MinInt64), int64(math.MaxInt64)
	v := env(num(least), num(greatest))
	for s, wanted := range map[string]int64{
		"b + 0": greatest, "b - 1 + 1": greatest, "a - 0": least, "a + 1 - 1": least, "a + b": -1, "b + a": -1, "-1 - b": least, "-b - 1": least, "b - b": 0, "a - a": 0,
		"b * 1": greatest, "b * -1": -greatest, "a * 1": least, "1 * a": least, "a * 0": 0, "0 * a": 0, "4611686018427387904 * -2": least, "-3037000499 * 3037000499": -9223372030926249001,
		"-b": -greatest, "-(a + 1)": greatest, "a / 1": least, "b / -1": -greatest, "a / a": 1, "a / b": -1, "b / a": 0, "a % -1": 0, "a % a": 0, "a % b": -1, "b % a": greatest, "a % 10": -8, "b % -10": 7,
	} {
		comes(t, s, read(t, s), v, num(wanted))
	}
	for _, s := range []string{
		"b + 1", "1 + b", "a - 1", "a + -1", "-1 + a", "-2 - b", "-b - 2", "0 - a", "-a", "-(-b - 1)", "a + a", "b + b", "b - a", "a - b", "b - -1",
		"a * -1", "-1 * a", "b * 2", "2 * b", "a * 2", "2 * a", "a * a", "a * b", "b * b", "4611686018427387904 * 2", "-4611686018427387905 * 2", "a / -1", "3037000500 * 3037000500",
		"b + 1 - 1", "1 - (b + 1)", "a - 1 + 1", "b * 2 / 2",
	} {
		fails(t, s, read(t, s), v, api.ErrOver)
	}
}

// TestQuotients: each pair of signs.
func TestQuotients(t *testing.T) {
	for s, wanted := range map[string]int64{
		"7 / 2": 3, "-7 / 2": -3, "7 / -2": -3, "-7 / -2": 3, "7 % 2": 1, "-7 % 2": -1, "7 % -2": 1, "-7 % -2": -1,
		"6 / 2": 3, "-6 / 2": -3, "6 / -2": -3, "-6 / -2": 3, "6 % 2": 0, "-6 % 2": 0, "6 % -2": 0, "-6 % -2": 0,
		"1 / 2": 0, "-1 / 2": 0, "1 % 2": 1, "-1 % 2": -1, "0 / 5": 0, "0 % 5": 0, "0 / -5": 0, "0 % -5": 0, "5 / 1": 5, "5 / -1": -5, "5 % 1": 0, "-5 % -1": 0,
		"7 / 2 * 2 + 7 % 2": 7,
	} {
		comes(t, s, read(t, s), Env{}, num(wanted))
	}
	for _, s := range []string{"1 / 0", "1 % 0", "0 / 0", "0 % 0", "-1 / 0", "-1 % 0", "1 / (1 - 1)", "9223372036854775807 % 0", "(-9223372036854775807 - 1) / 0", "(-9223372036854775807 - 1) % 0"} {
		fails(t, s, read(t, s), Env{}, api.ErrZero)
	}
}

func TestLen(t *testing.T) {
	v := env(text(""), text(strings.Repeat("ä", 32)), list(), list(make([]int64, 16)...), text("\x80\x00\n"))
	for s, wanted := range map[string]int64{
		"len(a)": 0, "len(b)": 64, "len(c)": 0, "len(d)": 16, "len(e)": 3, `len("\xff\x7f")`: 2, "len([])": 0, "len([1, 2])": 2, `len("a")`: 1,
	} {
		comes(t, s, read(t, s), v, num(wanted))
	}
	for _, s := range []string{"len(1)", "len(true)", "len('a)", "len(len(a))"} {
		fails(t, s, read(t, s), v, api.ErrKind)
	}
}

// upTo is a list of n numbers, none of which is that of its index.
func upTo(n int) api.Value {
	out := list()
	for i := range n {
		out.List = append(out.List, int64(100+i))
	}
	return out
}

func TestAt(t *testing.T) {
	for _, n := range []int{0, 1, 2, 15, 16} {
		for _, i := range []int64{math.MinInt64, -1 << 32, -17, -16, -2, -1, 0, 1, 2, 14, 15, 16, 17, 1 << 31, 1 << 32, 1<<32 + 1, math.MaxInt64 - 1, math.MaxInt64} {
			e, v := read(t, "at(a, b)"), env(upTo(n), num(i))
			what := "at of " + value.Print(v.Vals[0]) + " at " + strconv.FormatInt(i, 10)
			if i >= 0 && i < int64(n) {
				comes(t, what, e, v, num(100+i))
			} else {
				fails(t, what, e, v, api.ErrPlace)
			}
		}
	}
	comes(t, "of a literal", read(t, "at([1, 2, 3], 3 - 1)"), Env{}, num(3))
}

func TestPush(t *testing.T) {
	for n := range api.MaxList + 1 {
		for _, last := range []int64{0, -1, math.MinInt64, math.MaxInt64} {
			e, v := read(t, "push(a, b)"), env(upTo(n), num(last))
			what := "push onto " + value.Print(v.Vals[0])
			if n == api.MaxList {
				fails(t, what, e, v, api.ErrPlace)
			} else {
				comes(t, what, e, v, list(append(upTo(n).List, last)...))
			}
		}
	}
	comes(t, "push onto push", read(t, "push(push([], 1), 2)"), Env{}, list(1, 2))
	comes(t, "push of at", read(t, "push([5], at([6], 0))"), Env{}, list(5, 6))
}

// TestLists: one element that is no number, at each place.
func TestLists(t *testing.T) {
	others := []api.Expr{read(t, "true"), read(t, `"1"`), read(t, "'a"), read(t, "[1]"), read(t, "[]")}
	for _, n := range []int{1, 2, 3, 16} {
		e, wanted := tree(api.OpList), list()
		for i := range n {
			e.Args = append(e.Args, tree(api.OpNeg, api.Expr{Op: api.OpInt, Num: int64(i)}))
			wanted.List = append(wanted.List, -int64(i))
		}
		comes(t, "a list", e, Env{}, wanted)
		for i := range n {
			for _, other := range others {
				wrong := tree(api.OpList, slices.Clone(e.Args)...)
				wrong.Args[i] = other
				fails(t, printed(wrong), wrong, Env{}, api.ErrKind)
			}
		}
	}
	comes(t, "an empty list", tree(api.OpList), Env{}, list())
}
