package eval

import (
	"math"
	"slices"
	"testing"

	"switchyard/api"
	"switchyard/typing"
	"switchyard/value"
)

// dice are numbers that look thrown, and are the same in each run.
type dice uint64

func (d *dice) below(n int) int {
	*d = *d*6364136223846793005 + 1442695040888963407
	return int(uint64(*d) >> 33 % uint64(n))
}

func (d *dice) of(l ...int) int { return l[d.below(len(l))] }

// typed returns a tree of this kind, of about so many nodes; now and then a
// part is of another kind.
func (d *dice) typed(kind, nodes int) api.Expr {
	if d.below(200) == 0 {
		kind = 1 + d.below(5)
	}
	if nodes <= 1 || kind == api.Text || kind == api.Sym {
		return d.leaf(kind)
	}
	left := 1 + d.below(nodes)
	two := func(op, a, b int) api.Expr { return tree(op, d.typed(a, left-1), d.typed(b, nodes-left)) }
	switch kind {
	case api.Int:
		switch d.below(8) {
		case 0:
			return tree(api.OpLen, d.typed(d.of(api.List, api.Text), nodes-1))
		case 1:
			return tree(api.OpNeg, d.typed(api.Int, nodes-1))
		case 2:
			return two(api.OpAt, api.List, api.Int)
		}
		return two(d.of(api.OpMul, api.OpDiv, api.OpRem, api.OpAdd, api.OpSub), api.Int, api.Int)
	case api.List:
		if d.below(2) == 0 {
			return two(api.OpPush, api.List, api.Int)
		}
		e := tree(api.OpList)
		for range d.below(4) {
			e.Args = append(e.Args, d.typed(api.Int, nodes/4))
		}
		return e
	}
	switch d.below(4) {
	case 0:
		return tree(api.OpNot, d.typed(api.Bool, nodes-1))
	case 1:
		same := d.of(api.Int, api.Bool, api.Text, api.Sym, api.List)
		return two(d.of(api.OpEq, api.OpNe), same, same)
	case 2:
		same := d.of(api.Int, api.Text)
		return two(d.of(api.OpLt, api.OpLe), same, same)
	}
	return two(d.of(api.OpAnd, api.OpOr), api.Bool, api.Bool)
}

// leaf returns a literal, an attribute or a field.
func (d *dice) leaf(kind int) api.Expr {
	name := string(rune('a' + kind))
	switch d.below(3) {
	case 0:
		return attr(name)
	case 1:
		return field(name)
	}
	switch kind {
	case api.Int:
		return api.Expr{Op: api.OpInt, Num: int64(d.below(4))}
	case api.Bool:
		return api.Expr{Op: api.OpBool, Num: int64(d.below(2))}
	case api.Text:
		return api.Expr{Op: api.OpText, Text: []string{"", "a", "ab\xff"}[d.below(3)]}
	case api.Sym:
		return api.Expr{Op: api.OpSym, Text: []string{"red", "blue"}[d.below(2)]}
	}
	return tree(api.OpList)
}

// any returns a valid value of a kind, or now and then none.
func (d *dice) any(kind int) api.Value {
	if d.below(15) == 0 {
		return api.Value{}
	}
	numbers := []int64{0, 1, 2, 3, -1, -2, 5, math.MaxInt64, math.MinInt64}
	switch kind {
	case api.Int:
		return num(numbers[d.below(len(numbers))])
	case api.Bool:
		return api.Value{Kind: api.Bool, Num: int64(d.below(2))}
	case api.Text:
		return text([]string{"", "a", "b\x00"}[d.below(3)])
	case api.Sym:
		return sym([]string{"red", "blue"}[d.below(2)])
	}
	out := list()
	for range []int{0, 1, 2, 16}[d.below(4)] {
		out.List = append(out.List, numbers[d.below(len(numbers))])
	}
	return out
}

// env returns values for an attribute and a field of each kind.
func (d *dice) env() Env {
	var v Env
	for kind := api.Int; kind <= api.List; kind++ {
		a := api.Attr{Name: string(rune('a' + kind)), Kind: kind}
		if kind == api.Sym {
			a.Enum = "color"
		}
		v.Attrs, v.Vals = append(v.Attrs, a), append(v.Vals, d.any(kind))
		v.Names, v.Fields = append(v.Names, a), append(v.Fields, d.any(kind))
	}
	if d.below(10) == 0 {
		v.Vals = v.Vals[:d.below(6)]
	}
	return v
}

// outcome is what Of returns, in one thing.
type outcome struct {
	text string
	bad  api.Errno
}

func outcomeOf(e api.Expr, v Env) outcome {
	out, bad := Of(e, v)
	return outcome{value.Print(out), bad}
}

// TestTyped: a tree that has a kind has a value of that kind, or one of four
// errors.
func TestTyped(t *testing.T) {
	r := new(dice(10))
	enums := []api.Enum{{Name: "color", Syms: []string{"red", "blue"}}}
	seen := map[api.Errno]int{}
	for range 40000 {
		v := r.env()
		e := r.typed(1+r.below(5), 1+r.below(25))
		kind, bad := typing.Of(enums, v.Attrs, v.Names, e)
		if bad != api.OK {
			continue
		}
		got, bad := Of(e, v)
		seen[bad]++
		switch bad {
		case api.OK:
			want(t, "kind of "+printed(e), got.Kind, kind.Kind)
			want(t, "valid: "+printed(e), value.Right(got), true)
		case api.ErrNone, api.ErrOver, api.ErrZero, api.ErrPlace:
		default:
			t.Errorf("%s: error %d", printed(e), bad)
		}
		want(t, "once more "+printed(e), outcomeOf(e, v), outcome{value.Print(got), bad})
	}
	for _, bad := range []api.Errno{api.OK, api.ErrNone, api.ErrOver, api.ErrZero, api.ErrPlace} {
		want(t, "many with "+bad.Error(), seen[bad] > 500, true)
	}
}

// TestParts: a tree comes to what its node makes of its parts' values.
func TestParts(t *testing.T) {
	r := new(dice(11))
	count := 0
	for range 20000 {
		v := r.env()
		e := r.typed(1+r.below(5), 2+r.below(25))
		if len(e.Args) == 0 {
			continue
		}
		count++
		want(t, "parts of "+printed(e), outcomeOf(e, v), ofParts(e, v))
	}
	want(t, "many have parts", count > 5000, true)
}

// ofParts evaluates the parts of a tree each alone, and then the node with
// attributes in their place.
func ofParts(e api.Expr, v Env) outcome {
	shallow, vals := tree(e.Op), Env{}
	for i, a := range e.Args {
		got, bad := Of(a, v)
		if bad != api.OK {
			return outcome{"none", bad}
		}
		vals.Vals = append(vals.Vals, got)
		vals.Attrs = append(vals.Attrs, api.Attr{Name: string(rune('a' + i))})
		shallow.Args = append(shallow.Args, attr(vals.Attrs[i].Name))
		if e.Op == api.OpAnd || e.Op == api.OpOr {
			if got.Kind != api.Bool {
				return outcome{"none", api.ErrKind}
			}
			if (got.Num == 1) == (e.Op == api.OpOr) {
				return outcome{value.Print(got), api.OK}
			}
		}
	}
	return outcomeOf(shallow, vals)
}

// TestOdd: values that are not valid have some answer.
func TestOdd(t *testing.T) {
	long := slices.Repeat([]int64{7}, 100)
	odd := []api.Value{
		{Kind: -1}, {Kind: 77, Num: 5, Text: "a", List: long}, {Kind: api.Bool, Num: 2}, {Kind: api.Bool, Num: -1, Text: "x"}, {Kind: api.Int, Text: "x", List: long},
		{Kind: api.Text, Text: string(make([]byte, 1000)), Num: 1}, {Kind: api.Sym, Text: "no name"}, {Kind: api.Sym}, {Kind: api.List, List: long}, {Kind: math.MaxInt}, {Kind: math.MinInt},
	}
	for _, a := range append(odd, samples()...) {
		for _, b := range append(odd, samples()...) {
			v := env(a, b)
			for _, op := range append(ones(), twos()...) {
				e := tree(op, attr("a"), attr("b"))
				if slices.Contains(ones(), op) {
					e.Args = e.Args[:1]
				}
				want(t, "the same again of "+printed(e), outcomeOf(e, v), outcomeOf(e, v))
				Holds(e, v)
			}
		}
	}
	fails(t, "push onto too many", read(t, "push(a, 1)"), env(api.Value{Kind: api.List, List: long}), api.ErrPlace)
}
