package expr

import (
	"strings"

	"switchyard/api"
	"switchyard/value"
)

// parser reads tokens, the last of which is a TokEnd. It stops at one that is
// wrong by a panic with a stop.
type parser struct {
	tokens []api.Token
	at     int
	nodes  int // what the tokens before at have produced
	open   int // what is open at at
}

// stop is the end of a parser: at which token, and why.
type stop struct {
	at  int
	bad api.Errno
}

func (p *parser) wrong(bad api.Errno) stop {
	return stop{p.at, bad}
}

// here returns the token at which the parser is. What Scan would not return is
// no token, and the grammar allows it nowhere, like an end.
func (p *parser) here() api.Token {
	t := p.tokens[p.at]
	if !scanned(t) {
		return api.Token{Kind: api.TokEnd}
	}
	return t
}

// scanned reports whether Scan returns such a token, as far as it goes into a
// tree. The signs are not among what goes there.
func scanned(t api.Token) bool {
	switch t.Kind {
	case api.TokName, api.TokSym:
		return value.Name(t.Text)
	case api.TokInt:
		return t.Num >= 0
	case api.TokText:
		return len(t.Text) <= api.MaxText
	}
	return true
}

// is reports whether the parser is at this sign.
func (p *parser) is(sign string) bool {
	t := p.here()
	return t.Kind == api.TokSign && t.Text == sign
}

// pass reads a sign that has to be there.
func (p *parser) pass(sign string) {
	if !p.is(sign) {
		panic(p.wrong(api.ErrSyntax))
	}
	p.at++
}

// produce counts a node that the token here produces.
func (p *parser) produce() {
	if p.nodes == api.MaxNodes {
		panic(p.wrong(api.ErrMany))
	}
	p.nodes++
}

// enter counts a construct that the token here opens. An ErrDeep goes ahead of
// an ErrMany, so a token enters first and then produces.
func (p *parser) enter() {
	if p.open == api.MaxDeep {
		panic(p.wrong(api.ErrDeep))
	}
	p.open++
}

// leave reads the sign that ends the construct that was entered last.
func (p *parser) leave(sign string) {
	p.pass(sign)
	p.open--
}

// operator returns the operator of a level at which the parser is.
func (p *parser) operator(level int) (construct, bool) {
	t := p.here()
	if t.Kind != api.TokSign {
		return construct{}, false
	}
	return constructAt(level, t.Text)
}

// level reads the longest expression of a level.
func (p *parser) level(level int) api.Expr {
	if level == levelUnary {
		return p.unary()
	}
	left := p.level(level + 1)
again:
	o, found := p.operator(level)
	if !found {
		return left
	}
	p.produce()
	p.at++
	right := p.level(level + 1)
	if o.turned {
		left, right = right, left
	}
	left = api.Expr{Op: o.op, Args: []api.Expr{left, right}}
	if level == levelCompare {
		return left
	}
	goto again
}

func (p *parser) unary() api.Expr {
	o, found := p.operator(levelUnary)
	if !found {
		return p.primary()
	}
	p.enter()
	p.produce()
	p.at++
	operand := p.unary()
	p.open--
	return api.Expr{Op: o.op, Args: []api.Expr{operand}}
}

func (p *parser) primary() api.Expr {
	switch t := p.here(); t.Kind {
	case api.TokInt:
		return p.leaf(api.Expr{Op: api.OpInt, Num: t.Num})
	case api.TokText:
		return p.leaf(api.Expr{Op: api.OpText, Text: strings.Clone(t.Text)})
	case api.TokSym:
		return p.leaf(api.Expr{Op: api.OpSym, Text: strings.Clone(t.Text)})
	case api.TokName:
		return p.word(t.Text)
	}
	switch {
	case p.is("["):
		return p.list()
	case p.is("("):
		return p.group()
	}
	panic(p.wrong(api.ErrSyntax))
}

// leaf reads the token of a node without Args.
func (p *parser) leaf(e api.Expr) api.Expr {
	p.produce()
	p.at++
	return e
}

// begins reports whether the grammar allows an expression to begin here,
// however it would go on.
func (p *parser) begins() bool {
	switch p.here().Kind {
	case api.TokName, api.TokInt, api.TokText, api.TokSym:
		return true
	}
	_, unary := p.operator(levelUnary)
	return unary || p.is("[") || p.is("(")
}

// word reads a primary that begins with this name.
func (p *parser) word(name string) api.Expr {
	switch name {
	case "true":
		return p.leaf(api.Expr{Op: api.OpBool, Num: 1})
	case "false":
		return p.leaf(api.Expr{Op: api.OpBool})
	case "msg":
		return p.field()
	}
	if c, found := constructAt(levelPrimary, name); found {
		return p.call(c)
	}
	return p.leaf(api.Expr{Op: api.OpAttr, Text: strings.Clone(name)})
}

func (p *parser) field() api.Expr {
	p.at++
	p.pass(".")
	t := p.here()
	if t.Kind != api.TokName {
		panic(p.wrong(api.ErrSyntax))
	}
	return p.leaf(api.Expr{Op: api.OpField, Text: strings.Clone(t.Text)})
}

func (p *parser) call(c construct) api.Expr {
	p.at++
	if !p.is("(") {
		panic(p.wrong(api.ErrSyntax))
	}
	p.enter()
	p.produce()
	p.at++
	args := []api.Expr{p.level(levelOr)}
	for len(args) < c.operands {
		p.pass(",")
		args = append(args, p.level(levelOr))
	}
	p.leave(")")
	return api.Expr{Op: c.op, Args: args}
}

func (p *parser) list() api.Expr {
	p.enter()
	p.produce()
	p.at++
	e := api.Expr{Op: api.OpList}
	if !p.is("]") {
		e.Args = p.elements()
	}
	p.leave("]")
	return e
}

func (p *parser) elements() []api.Expr {
	l := []api.Expr{p.level(levelOr)}
	for p.is(",") {
		p.at++
		if len(l) == api.MaxList && p.begins() {
			panic(p.wrong(api.ErrMany))
		}
		l = append(l, p.level(levelOr))
	}
	return l
}

func (p *parser) group() api.Expr {
	p.enter()
	p.at++
	e := p.level(levelOr)
	p.leave(")")
	return e
}
