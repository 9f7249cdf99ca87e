package eval

import (
	"slices"

	"switchyard/api"
	"switchyard/value"
)

func boolean(b bool) api.Value {
	if b {
		return api.Value{Kind: api.Bool, Num: 1}
	}
	return api.Value{Kind: api.Bool}
}

func truth(v api.Value) bool {
	need(v.Kind == api.Bool, api.ErrKind)
	return v.Num == 1
}

// numbers returns the Nums of values that have to be Ints.
func numbers(l []api.Value) []int64 {
	out := make([]int64, len(l))
	for i, v := range l {
		need(v.Kind == api.Int, api.ErrKind)
		out[i] = v.Num
	}
	return out
}

// node returns the value of a node whose Args have these values.
func node(e api.Expr, args []api.Value) api.Value {
	switch e.Op {
	case api.OpText:
		return api.Value{Kind: api.Text, Text: e.Text}
	case api.OpSym:
		return api.Value{Kind: api.Sym, Text: e.Text}
	case api.OpBool:
		return api.Value{Kind: api.Bool, Num: e.Num}
	case api.OpNot:
		return boolean(!truth(args[0]))
	case api.OpEq, api.OpNe, api.OpLt, api.OpLe:
		return boolean(compare(e.Op, args[0], args[1]))
	case api.OpList:
		return api.Value{Kind: api.List, List: numbers(args)}
	case api.OpPush:
		return api.Value{Kind: api.List, List: push(args[0], args[1])}
	}
	return api.Value{Kind: api.Int, Num: number(e, args)}
}

// number returns the number that a node has as its value.
func number(e api.Expr, args []api.Value) int64 {
	switch e.Op {
	case api.OpInt:
		return e.Num
	case api.OpLen:
		return size(args[0])
	case api.OpAt:
		return at(args[0], args[1])
	}
	return compute(e.Op, numbers(args))
}

func compare(op int, a, b api.Value) bool {
	need(a.Kind == b.Kind, api.ErrKind)
	switch op {
	case api.OpEq:
		return value.Same(a, b)
	case api.OpNe:
		return !value.Same(a, b)
	}
	need(a.Kind == api.Int || a.Kind == api.Text, api.ErrKind)
	if op == api.OpLt {
		return value.Order(a, b) < 0
	}
	return value.Order(a, b) <= 0
}

func size(v api.Value) int64 {
	need(v.Kind == api.List || v.Kind == api.Text, api.ErrKind)
	if v.Kind == api.List {
		return int64(len(v.List))
	}
	return int64(len(v.Text))
}

func at(l, index api.Value) int64 {
	need(l.Kind == api.List && index.Kind == api.Int, api.ErrKind)
	need(index.Num >= 0 && index.Num < int64(len(l.List)), api.ErrPlace)
	return l.List[index.Num]
}

func push(l, last api.Value) []int64 {
	need(l.Kind == api.List && last.Kind == api.Int, api.ErrKind)
	need(len(l.List) < api.MaxList, api.ErrPlace)
	return append(slices.Clip(l.List), last.Num)
}
