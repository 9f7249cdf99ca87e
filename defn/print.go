package defn

import (
	"strconv"
	"strings"

	"switchyard/api"
	"switchyard/expr"
	"switchyard/value"
)

// writer writes the text of a choreography, and keeps the first error of what
// it was given.
type writer struct {
	out strings.Builder
	bad api.Errno
}

// put writes a piece. What is behind a text that is too long already is looked
// at, but counts for nothing more, so it is not kept.
func (w *writer) put(s string) {
	if w.out.Len() <= api.MaxSource {
		w.out.WriteString(s)
	}
}

func (w *writer) need(holds bool, bad api.Errno) {
	if !holds && w.bad == api.OK {
		w.bad = bad
	}
}

// name writes what stands ahead of a name, and the name.
func (w *writer) name(ahead, s string) {
	w.need(value.Name(s), api.ErrName)
	w.put(ahead)
	w.put(s)
}

// nameIf writes a name like name does, if there is one.
func (w *writer) nameIf(ahead, s string) {
	if s != "" {
		w.name(ahead, s)
	}
}

// names writes what stands ahead of names, and the names, if there are any.
func (w *writer) names(ahead string, l []string) {
	for _, s := range l {
		w.name(ahead, s)
		ahead = ", "
	}
}

// tree writes what stands ahead of an expression, and the expression.
func (w *writer) tree(ahead string, e api.Expr) {
	s, bad := expr.Print(e)
	w.need(bad == api.OK, bad)
	w.put(ahead)
	w.put(s)
}

// treeIf writes an expression like tree does, if there is one.
func (w *writer) treeIf(ahead string, e api.Expr) {
	if !missing(e) {
		w.tree(ahead, e)
	}
}

// missing reports whether an expression is what a choreography has where its
// source has none. One without an Op that has anything else is not: the text
// would lose it.
func missing(e api.Expr) bool {
	return e.Op == api.OpNone && e.Num == 0 && e.Text == "" && len(e.Args) == 0
}

// flag writes a word if it holds.
func (w *writer) flag(word string, holds bool) {
	if holds {
		w.put(word)
	}
}

// limits writes what stands ahead of a range, and the range.
func (w *writer) limits(ahead string, low, high int) {
	w.number(ahead, low)
	w.number("..", high)
}

func (w *writer) number(ahead string, n int) {
	w.need(n >= 0 && n <= mostInRange, api.ErrForm)
	w.put(ahead)
	w.put(strconv.Itoa(n))
}

func (w *writer) def(d api.Def) {
	for _, e := range d.Enums {
		w.enum(e)
	}
	for _, t := range d.Types {
		w.artifact(t)
	}
	for _, c := range d.Channels {
		w.channel(c)
	}
	for _, g := range d.Groups {
		w.milestone(g)
	}
	for _, r := range d.Roles {
		w.role(r)
	}
}

func (w *writer) enum(e api.Enum) {
	w.name("enum ", e.Name)
	w.need(len(e.Syms) > 0, api.ErrForm)
	w.names(" { ", e.Syms)
	w.put(" }\n")
}

func (w *writer) artifact(t api.Type) {
	w.name("artifact ", t.Name)
	w.put(" {\n")
	for _, a := range t.Attrs {
		w.attr(a)
	}
	w.names("\tkey ", t.Key)
	w.flag(";\n", len(t.Key) > 0)
	for _, s := range t.States {
		w.state(s)
	}
	for _, p := range t.Ports {
		w.port(p)
	}
	for _, m := range t.Moves {
		w.move(m)
	}
	w.put("}\n")
}

func (w *writer) attr(a api.Attr) {
	w.name("\tattr ", a.Name)
	if a.Kind == api.Sym {
		w.name(" ", a.Enum)
		w.need(kindOf(a.Enum) == api.Sym, api.ErrForm)
	} else {
		word := wordOf(a.Kind)
		w.need(word != "" && a.Enum == "", api.ErrForm)
		w.put(" " + word)
	}
	w.put(";\n")
}

func (w *writer) state(s api.State) {
	w.name("\tstate ", s.Name)
	w.flag(" start", s.Start)
	w.flag(" final", s.Final)
	w.put(";\n")
}

func (w *writer) port(p api.Port) {
	ahead := "\tin "
	if p.Out {
		ahead = "\tout "
	}
	w.name(ahead, p.Name)
	w.limits(" ", p.Min, p.Max)
	w.put(";\n")
}

func (w *writer) move(m api.Move) {
	w.name("\tmove ", m.Name)
	w.name(": ", m.From)
	w.name(" -> ", m.To)
	w.nameIf(" on ", m.On)
	w.need(m.After >= 0, api.ErrForm)
	w.flag(" after "+strconv.FormatInt(m.After, 10), m.After != 0)
	w.treeIf(" when ", m.When)
	for _, s := range m.Sets {
		w.name(" set ", s.Attr)
		w.tree(" = ", s.To)
	}
	for _, s := range m.Sends {
		w.name(" send ", s)
	}
	w.put(";\n")
}

func (w *writer) channel(c api.Channel) {
	w.name("channel ", c.Name)
	w.name(": ", c.From)
	w.name(".", c.FromPort)
	w.name(" -> ", c.To)
	w.name(".", c.ToPort)
	w.need(len(c.By) > 0, api.ErrForm)
	ahead := " by "
	for _, e := range c.By {
		w.tree(ahead, e)
		ahead = ", "
	}
	w.limits(" for ", c.Low, c.High)
	w.flag(" spawn", c.Spawn)
	w.names(" carry ", c.Carry)
	w.put(";\n")
}

func (w *writer) milestone(g api.Group) {
	w.name("milestone ", g.Name)
	w.name(": ", g.Type)
	w.name(" ", g.State)
	w.name(" -> ", g.To)
	w.name(" by ", g.By)
	w.limits(" for ", g.Low, g.High)
	w.treeIf(" when ", g.When)
	w.put(";\n")
}

func (w *writer) role(r api.Role) {
	w.name("role ", r.Name)
	w.put(" {\n")
	for _, s := range r.Sees {
		w.sight(s)
	}
	for _, right := range r.May {
		w.name("\tmay ", right.Type)
		w.nameIf(".", right.Move)
		w.put(";\n")
	}
	w.put("}\n")
}

func (w *writer) sight(s api.Sight) {
	w.name("\tsees ", s.Type)
	w.names("(", s.Attrs)
	w.flag(")", len(s.Attrs) > 0)
	w.names(" in ", s.States)
	w.treeIf(" where ", s.Where)
	w.put(";\n")
}
