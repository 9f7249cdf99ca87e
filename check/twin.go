package check

import (
	"slices"
	"strings"

	"switchyard/api"
)

// The twins share no memory with what they are copies of, but for the insides
// of expressions, which nobody writes.

func twins[T any](l []T, twin func(T) T) []T {
	var out []T
	for _, x := range l {
		out = append(out, twin(x))
	}
	return out
}

func twinType(t api.Type) api.Type {
	t.Name = strings.Clone(t.Name)
	t.Attrs = twins(t.Attrs, twinAttr)
	t.Key = twins(t.Key, strings.Clone)
	t.States = twins(t.States, twinState)
	t.Ports = twins(t.Ports, twinPort)
	t.Moves = twins(t.Moves, twinMove)
	return t
}

func twinAttr(a api.Attr) api.Attr {
	a.Name, a.Enum = strings.Clone(a.Name), strings.Clone(a.Enum)
	return a
}

func twinState(s api.State) api.State {
	s.Name = strings.Clone(s.Name)
	return s
}

func twinPort(p api.Port) api.Port {
	p.Name = strings.Clone(p.Name)
	return p
}

func twinMove(m api.Move) api.Move {
	m.Name, m.On = strings.Clone(m.Name), strings.Clone(m.On)
	m.From, m.To = strings.Clone(m.From), strings.Clone(m.To)
	m.Sets = twins(m.Sets, twinSet)
	m.Sends = twins(m.Sends, strings.Clone)
	return m
}

func twinSet(s api.Set) api.Set {
	s.Attr = strings.Clone(s.Attr)
	return s
}

func twinChannel(c api.Channel) api.Channel {
	c.Name = strings.Clone(c.Name)
	c.From, c.FromPort = strings.Clone(c.From), strings.Clone(c.FromPort)
	c.To, c.ToPort = strings.Clone(c.To), strings.Clone(c.ToPort)
	c.By = slices.Clone(c.By)
	c.Carry = twins(c.Carry, strings.Clone)
	return c
}

func twinGroup(g api.Group) api.Group {
	g.Name, g.Type, g.By = strings.Clone(g.Name), strings.Clone(g.Type), strings.Clone(g.By)
	g.State, g.To = strings.Clone(g.State), strings.Clone(g.To)
	return g
}

func twinRole(r api.Role) api.Role {
	r.Name = strings.Clone(r.Name)
	r.Sees = twins(r.Sees, twinSight)
	r.May = twins(r.May, twinRight)
	return r
}

func twinSight(s api.Sight) api.Sight {
	s.Type = strings.Clone(s.Type)
	s.Attrs = twins(s.Attrs, strings.Clone)
	s.States = twins(s.States, strings.Clone)
	return s
}

func twinRight(r api.Right) api.Right {
	r.Type, r.Move = strings.Clone(r.Type), strings.Clone(r.Move)
	return r
}
