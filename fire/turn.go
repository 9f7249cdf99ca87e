package fire

import (
	"slices"

	"switchyard/api"
	"switchyard/check"
	"switchyard/eval"
	"switchyard/item"
)

// turn is an artifact that fits a valid choreography, at a time and with at
// most one message.
type turn struct {
	def  api.Def
	typ  api.Type
	item api.Item
	now  int64
	mail []api.Mail
	port string // where the message arrives, if it does
}

// begin returns the turn in which an artifact may move; or the first error.
func begin(d api.Def, x api.Item, now int64, mail []api.Mail) (turn, api.Errno) {
	if bad := item.Check(d, x); bad != api.OK {
		return turn{}, bad
	}
	if now < 0 || now > api.MaxTime {
		return turn{}, api.ErrArg
	}
	typ, _ := check.Type(d, x.Type)
	t := turn{def: d, typ: typ, item: x, now: now, mail: mail[:min(1, len(mail))]}
	for _, m := range t.mail {
		if c, found := check.Channel(d, m.Channel); found && c.To == x.Type {
			t.port = c.ToPort
		}
	}
	return t, api.OK
}

// choose returns a turn and a move that is possible in it; or the first error.
func choose(d api.Def, x api.Item, move string, now int64, mail []api.Mail) (turn, api.Move, api.Errno) {
	t, bad := begin(d, x, now, mail)
	if bad != api.OK {
		return turn{}, api.Move{}, bad
	}
	m, found := check.Move(t.typ, move)
	if !found {
		return turn{}, api.Move{}, api.ErrName
	}
	return t, m, t.able(m)
}

// able returns OK if a move of the type is possible; or the first error.
func (t turn) able(m api.Move) api.Errno {
	switch {
	case t.item.State != m.From || !t.calls(m):
		return api.ErrState
	case !t.mailFits():
		return api.ErrForm
	case t.now-t.item.Since < m.After:
		return api.ErrState
	}
	holds, bad := eval.Holds(m.When, t.env())
	switch {
	case bad != api.OK:
		return bad
	case !holds:
		return api.ErrState
	case !t.countsFit(m):
		return api.ErrCount
	}
	return api.OK
}

// calls reports whether there is a message exactly if a move needs one, and it
// arrives at no other port than the move's.
func (t turn) calls(m api.Move) bool {
	if len(t.mail) == 0 || m.On == "" {
		return len(t.mail) == 0 && m.On == ""
	}
	return t.port == m.On || t.port == ""
}

// mailFits reports whether there is no message, or one that may be in the Box
// of artifacts of the type.
func (t turn) mailFits() bool {
	return len(t.mail) == 0 || t.port != "" && item.Mail(t.def, t.mail[0])
}

// env is what the names of a move's expressions stand for.
func (t turn) env() eval.Env {
	v := eval.Env{Attrs: t.typ.Attrs, Vals: t.item.Attrs}
	for _, m := range t.mail {
		v.Names, v.Fields = check.Fields(t.def, t.typ.Name, t.port), m.Fields
	}
	return v
}

// countsFit reports whether the ports allow their counters after a move.
func (t turn) countsFit(m api.Move) bool {
	to, _ := check.State(t.typ, m.To)
	for i, n := range t.counts(m) {
		p := t.typ.Ports[i]
		if n > p.Max || to.Final && n < p.Min {
			return false
		}
	}
	return true
}

// counts returns the counters after a move.
func (t turn) counts(m api.Move) []int {
	out := slices.Clone(t.item.Counts)
	for i, p := range t.typ.Ports {
		if p.Name == m.On || slices.Contains(m.Sends, p.Name) {
			out[i]++
		}
	}
	return out
}
