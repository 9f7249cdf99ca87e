package fire

import (
	"strings"

	"switchyard/api"
	"switchyard/check"
	"switchyard/eval"
	"switchyard/item"
	"switchyard/value"
)

// moved returns the artifact after a move that is possible; or the first error
// of its Sets.
func (t turn) moved(m api.Move) (api.Item, api.Errno) {
	y, v, fits := item.Twin(t.item), t.env(), true
	y.State, y.Since, y.Counts = m.To, t.now, t.counts(m)
	for _, s := range m.Sets {
		to, bad := eval.Of(s.To, v)
		if bad != api.OK {
			return api.Item{}, bad
		}
		i := check.Place(t.typ.Attrs, s.Attr)
		fits = fits && item.Fits(t.def, t.typ.Attrs[i], to)
		y.Attrs[i] = to
	}
	if !fits {
		return api.Item{}, api.ErrKind
	}
	return y, api.OK
}

// sends returns the messages that a move sends, by the artifact after it; or
// the first error of their keys.
func (t turn) sends(m api.Move, y api.Item) ([]Send, api.Errno) {
	var out []Send
	for _, port := range m.Sends {
		for _, c := range t.def.Channels {
			if c.From != t.typ.Name || c.FromPort != port {
				continue
			}
			s, bad := t.send(c, y)
			if bad != api.OK {
				return nil, bad
			}
			out = append(out, s)
		}
	}
	return out, api.OK
}

// send returns the message that goes out on a channel.
func (t turn) send(c api.Channel, y api.Item) (Send, api.Errno) {
	s := Send{Channel: strings.Clone(c.Name)}
	for _, e := range c.By {
		v, bad := eval.Of(e, eval.Env{Attrs: t.typ.Attrs, Vals: y.Attrs})
		if bad != api.OK {
			return Send{}, bad
		}
		s.Key = append(s.Key, v)
	}
	for _, name := range c.Carry {
		s.Fields = append(s.Fields, y.Attrs[check.Place(t.typ.Attrs, name)])
	}
	s.Fields = value.Twin(s.Fields...)
	return s, api.OK
}
