package defn

import (
	"math"

	"switchyard/api"
	"switchyard/expr"
)

// parser reads the declarations of a source, and keeps what they declare. The
// word with which a part begins is read before the part is.
type parser struct {
	tokens
	def api.Def
}

func (p *parser) source() {
	for !p.over() {
		p.declaration()
	}
}

func (p *parser) declaration() {
	d := &p.def
	switch {
	case p.skip("enum"):
		d.Enums = append(d.Enums, p.enum())
	case p.skip("artifact"):
		d.Types = append(d.Types, p.artifact())
	case p.skip("channel"):
		d.Channels = append(d.Channels, p.channel())
	case p.skip("milestone"):
		d.Groups = append(d.Groups, p.milestone())
	case p.skip("role"):
		d.Roles = append(d.Roles, p.role())
	default:
		p.refuse(api.ErrSyntax)
	}
}

func (p *parser) enum() api.Enum {
	e := api.Enum{Name: p.name()}
	p.pass("{")
	e.Syms = p.names()
	p.pass("}")
	return e
}

func (p *parser) artifact() api.Type {
	t := api.Type{Name: p.name()}
	p.pass("{")
	for !p.skip("}") {
		p.part(&t)
		p.pass(";")
	}
	return t
}

func (p *parser) part(t *api.Type) {
	switch {
	case p.skip("attr"):
		t.Attrs = append(t.Attrs, p.attr())
	case p.skip("key"):
		t.Key = append(t.Key, p.names()...)
	case p.skip("state"):
		t.States = append(t.States, p.state())
	case p.skip("in"):
		t.Ports = append(t.Ports, p.port(false))
	case p.skip("out"):
		t.Ports = append(t.Ports, p.port(true))
	case p.skip("move"):
		t.Moves = append(t.Moves, p.move())
	default:
		p.refuse(api.ErrSyntax)
	}
}

func (p *parser) attr() api.Attr {
	name, word := p.name(), p.name()
	kind := kindOf(word)
	if kind == api.Sym {
		return api.Attr{Name: name, Kind: kind, Enum: word}
	}
	return api.Attr{Name: name, Kind: kind}
}

func (p *parser) state() api.State {
	return api.State{Name: p.name(), Start: p.skip("start"), Final: p.skip("final")}
}

func (p *parser) port(out bool) api.Port {
	port := api.Port{Name: p.name(), Out: out}
	port.Min, port.Max = p.limits()
	return port
}

func (p *parser) move() api.Move {
	m := api.Move{
		Name: p.name(),
		From: p.nameBehind(":"),
		To:   p.nameBehind("->"),
		On:   p.nameIf("on"),
	}
	if p.skip("after") {
		m.After = p.digits(math.MaxInt64)
	}
	m.When = p.treeIf("when")
	for p.skip("set") {
		m.Sets = append(m.Sets, p.set())
	}
	for p.skip("send") {
		m.Sends = append(m.Sends, p.name())
	}
	return m
}

func (p *parser) set() api.Set {
	s := api.Set{Attr: p.name()}
	p.pass("=")
	s.To = p.tree()
	return s
}

func (p *parser) channel() api.Channel {
	c := api.Channel{
		Name:     p.name(),
		From:     p.nameBehind(":"),
		FromPort: p.nameBehind("."),
		To:       p.nameBehind("->"),
		ToPort:   p.nameBehind("."),
	}
	p.pass("by")
	c.By = p.trees()
	p.pass("for")
	c.Low, c.High = p.limits()
	c.Spawn = p.skip("spawn")
	c.Carry = p.namesIf("carry")
	p.pass(";")
	return c
}

func (p *parser) milestone() api.Group {
	g := api.Group{
		Name:  p.name(),
		Type:  p.nameBehind(":"),
		State: p.name(),
		To:    p.nameBehind("->"),
		By:    p.nameBehind("by"),
	}
	p.pass("for")
	g.Low, g.High = p.limits()
	g.When = p.treeIf("when")
	p.pass(";")
	return g
}

func (p *parser) role() api.Role {
	r := api.Role{Name: p.name()}
	p.pass("{")
	for !p.skip("}") {
		switch {
		case p.skip("sees"):
			r.Sees = append(r.Sees, p.sight())
		case p.skip("may"):
			r.May = append(r.May, api.Right{Type: p.name(), Move: p.nameIf(".")})
		default:
			p.refuse(api.ErrSyntax)
		}
		p.pass(";")
	}
	return r
}

func (p *parser) sight() api.Sight {
	s := api.Sight{Type: p.name()}
	if p.skip("(") && !p.skip(")") {
		s.Attrs = p.names()
		p.pass(")")
	}
	s.States = p.namesIf("in")
	s.Where = p.treeIf("where")
	return s
}

// tree reads the longest expression that begins here.
func (p *parser) tree() api.Expr {
	e, next, bad := expr.Parse(p.list, p.at)
	p.at = next
	if bad != api.OK {
		p.refuse(bad)
	}
	return e
}

// treeIf reads the expression behind a word, if the word is here.
func (p *parser) treeIf(word string) api.Expr {
	if !p.skip(word) {
		return api.Expr{}
	}
	return p.tree()
}

func (p *parser) trees() []api.Expr {
	l := []api.Expr{p.tree()}
	for p.skip(",") {
		l = append(l, p.tree())
	}
	return l
}
