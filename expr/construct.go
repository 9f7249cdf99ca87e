package expr

import "switchyard/api"

// The levels of the grammar: the operands of a level are of the next one.
const (
	levelOr = iota
	levelAnd
	levelCompare
	levelSum
	levelProduct
	levelUnary
	levelPrimary
)

// construct is an operator or a function: what makes a node of operands.
type construct struct {
	word     string
	op       int
	level    int
	operands int
	turned   bool // the tree has the operands in the other order
}

// constructs are all there are. Where two have the same Op, the text of a tree
// has the one that is not turned.
var constructs = [...]construct{
	{"||", api.OpOr, levelOr, 2, false},
	{"&&", api.OpAnd, levelAnd, 2, false},
	{"==", api.OpEq, levelCompare, 2, false},
	{"!=", api.OpNe, levelCompare, 2, false},
	{"<", api.OpLt, levelCompare, 2, false},
	{"<=", api.OpLe, levelCompare, 2, false},
	{">", api.OpLt, levelCompare, 2, true},
	{">=", api.OpLe, levelCompare, 2, true},
	{"+", api.OpAdd, levelSum, 2, false},
	{"-", api.OpSub, levelSum, 2, false},
	{"*", api.OpMul, levelProduct, 2, false},
	{"/", api.OpDiv, levelProduct, 2, false},
	{"%", api.OpRem, levelProduct, 2, false},
	{"!", api.OpNot, levelUnary, 1, false},
	{"-", api.OpNeg, levelUnary, 1, false},
	{"len", api.OpLen, levelPrimary, 1, false},
	{"at", api.OpAt, levelPrimary, 2, false},
	{"push", api.OpPush, levelPrimary, 2, false},
}

// constructAt returns the construct of a level that has this word.
func constructAt(level int, word string) (construct, bool) {
	for _, c := range constructs {
		if c.level == level && c.word == word {
			return c, true
		}
	}
	return construct{}, false
}

// constructOf returns the construct with which the text of a tree tells an Op.
func constructOf(op int) (construct, bool) {
	for _, c := range constructs {
		if c.op == op && !c.turned {
			return c, true
		}
	}
	return construct{}, false
}

// levelOf returns the level at which the text of a node with this Op is read.
func levelOf(op int) int {
	if c, found := constructOf(op); found {
		return c.level
	}
	return levelPrimary
}
