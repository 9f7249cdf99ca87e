package expr

import (
	"strings"

	"switchyard/api"
	"switchyard/value"
)

// checker looks at the nodes of a tree, each before its Args, and counts them.
type checker struct {
	nodes int
}

// tree returns the first error of a tree.
func (c *checker) tree(e api.Expr) api.Errno {
	c.nodes++
	if c.nodes > api.MaxNodes {
		return api.ErrMany
	}
	if !formed(e) {
		return api.ErrForm
	}
	if !named(e) {
		return api.ErrName
	}
	for _, a := range e.Args {
		if bad := c.tree(a); bad != api.OK {
			return bad
		}
	}
	return api.OK
}

// formed reports whether a node has what belongs to its Op, and nothing else.
func formed(e api.Expr) bool {
	fits, rest := true, e
	switch e.Op {
	case api.OpInt:
		fits, rest.Num = e.Num >= 0, 0
	case api.OpBool:
		fits, rest.Num = e.Num == 0 || e.Num == 1, 0
	case api.OpText:
		fits, rest.Text = len(e.Text) <= api.MaxText, ""
	case api.OpSym, api.OpAttr, api.OpField:
		rest.Text = ""
	case api.OpList:
		fits, rest.Args = len(e.Args) <= api.MaxList, nil
	default:
		c, found := constructOf(e.Op)
		fits, rest.Args = found && len(e.Args) == c.operands, nil
	}
	return fits && rest.Num == 0 && rest.Text == "" && len(rest.Args) == 0
}

// named reports whether a node has a name that it may have, if it has one.
func named(e api.Expr) bool {
	switch e.Op {
	case api.OpSym, api.OpField:
		return value.Name(e.Text)
	case api.OpAttr:
		return value.Name(e.Text) && !Taken(e.Text)
	}
	return true
}

// writer writes the text of a tree.
type writer struct {
	out     strings.Builder
	open    int
	deepest int // the most that was ever open
}

func (w *writer) enter() {
	w.open++
	w.deepest = max(w.deepest, w.open)
}

func (w *writer) tree(e api.Expr) {
	c, found := constructOf(e.Op)
	switch {
	case e.Op == api.OpList:
		w.enclosed("[", "]", e.Args...)
	case !found:
		w.out.WriteString(leaf(e))
	case c.level == levelPrimary:
		w.enclosed(c.word+"(", ")", e.Args...)
	case c.level == levelUnary:
		w.enter()
		w.out.WriteString(c.word)
		w.operand(e.Args[0], levelUnary)
		w.open--
	default:
		w.binary(c, e.Args[0], e.Args[1])
	}
}

func (w *writer) binary(c construct, left, right api.Expr) {
	level := c.level
	if level == levelCompare { // its left operand is no comparison either
		level++
	}
	w.operand(left, level)
	w.out.WriteString(" " + c.word + " ")
	w.operand(right, c.level+1)
}

// operand writes what is to be read as an operand of at least this level.
func (w *writer) operand(e api.Expr, level int) {
	if levelOf(e.Op) < level {
		w.enclosed("(", ")", e)
		return
	}
	w.tree(e)
}

func (w *writer) enclosed(begin, end string, l ...api.Expr) {
	w.enter()
	w.out.WriteString(begin)
	for i, e := range l {
		if i > 0 {
			w.out.WriteString(", ")
		}
		w.tree(e)
	}
	w.out.WriteString(end)
	w.open--
}

// leaf returns the text of a node without Args.
func leaf(e api.Expr) string {
	switch e.Op {
	case api.OpInt:
		return value.Print(api.Value{Kind: api.Int, Num: e.Num})
	case api.OpBool:
		return value.Print(api.Value{Kind: api.Bool, Num: e.Num})
	case api.OpText:
		return value.Print(api.Value{Kind: api.Text, Text: e.Text})
	case api.OpSym:
		return value.Print(api.Value{Kind: api.Sym, Text: e.Text})
	case api.OpField:
		return "msg." + e.Text
	}
	return e.Text
}
