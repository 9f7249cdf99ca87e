package code

import (
	"strings"

	"switchyard/api"
	"switchyard/pack"
	"switchyard/value"
)

// writer writes encodings, one behind the other. What is not encodable it does
// not write: then all that it has written means nothing.
type writer struct {
	strings.Builder
	bad bool
}

func (w *writer) number(n int64) {
	w.WriteString(pack.Number(n))
}

// small writes a count that is at most so great.
func (w *writer) small(n, most int) {
	if n < 0 || n > most {
		w.bad = true
		return
	}
	w.WriteString(pack.Count(uint64(n)))
}

func (w *writer) name(s string) {
	if len(s) > api.MaxName {
		w.bad = true
		return
	}
	w.WriteString(pack.Text(s))
}

// count writes a counter of an artifact.
func (w *writer) count(n int) {
	w.small(n, api.MaxCount)
}

// writeAll writes how many elements there are, and these.
func writeAll[T any](w *writer, most int, l []T, write func(*writer, T)) {
	w.small(len(l), most)
	for _, x := range l {
		// A list that is too long may be so by far.
		if w.bad {
			return
		}
		write(w, x)
	}
}

func (w *writer) value(v api.Value) {
	if !value.Right(v) {
		w.bad = true
		return
	}
	w.WriteByte(byte(v.Kind))
	switch v.Kind {
	case api.Int:
		w.number(v.Num)
	case api.Bool:
		w.WriteString(pack.Truth(v.Num == 1))
	case api.Text, api.Sym:
		w.WriteString(pack.Text(v.Text))
	case api.List:
		writeAll(w, api.MaxList, v.List, (*writer).number)
	}
}

func (w *writer) row(l []api.Value) {
	writeAll(w, api.MaxParts, l, (*writer).value)
}

func (w *writer) mail(m api.Mail) {
	w.number(m.ID)
	w.name(m.Channel)
	w.row(m.Key)
	w.row(m.Fields)
}

func (w *writer) item(x api.Item) {
	w.number(x.ID)
	w.number(x.Since)
	w.name(x.Type)
	w.name(x.State)
	w.row(x.Attrs)
	writeAll(w, api.MaxParts, x.Counts, (*writer).count)
	writeAll(w, api.MaxBound, x.Box, (*writer).mail)
}

func (w *writer) dead(x api.Dead) {
	w.number(x.N)
	w.mail(x.Mail)
	w.small(x.Reason, api.Buried)
}

func (w *writer) event(x api.Event) {
	w.number(x.N)
	w.number(x.Tick)
	w.number(x.Item)
	w.name(x.Name)
	w.name(x.Type)
	w.name(x.State)
	w.row(x.Attrs)
}

func (w *writer) sub(x api.Sub) {
	w.number(x.ID)
	w.number(x.Past)
	w.name(x.Role)
}
