package code

import (
	"switchyard/api"
	"switchyard/pack"
	"switchyard/value"
)

// reader reads encodings, one behind the other, and keeps the first error.
// The methods below read the parts of an object in the order of its bytes:
// Go calls the functions of a literal from left to right.
type reader struct {
	*pack.Reader
}

// reject keeps ErrForm, if there was no error yet. Layer 2's reader keeps no
// errors but its own, so one that has just read a boolean that is none takes
// its place.
func (r *reader) reject() {
	if r.Bad() != api.OK {
		return
	}
	r.Reader = pack.New("\x02")
	r.Truth()
}

func (r *reader) name() string {
	return r.Text(api.MaxName)
}

// count reads a counter of an artifact.
func (r *reader) count() int {
	return r.Small(api.MaxCount)
}

// readAll reads how many elements there are, and these.
func readAll[T any](r *reader, most int, read func(*reader) T) []T {
	var l []T
	for range r.Small(most) {
		x := read(r)
		// The bytes may end long before the elements that were announced.
		if r.Bad() != api.OK {
			return nil
		}
		l = append(l, x)
	}
	return l
}

func (r *reader) value() api.Value {
	v := api.Value{Kind: r.Byte()}
	switch v.Kind {
	case api.None:
	case api.Int:
		v.Num = r.Number()
	case api.Bool:
		if r.Truth() {
			v.Num = 1
		}
	case api.Text:
		v.Text = r.Text(api.MaxText)
	case api.Sym:
		v.Text = r.sym()
	case api.List:
		v.List = readAll(r, api.MaxList, (*reader).Number)
	default:
		r.reject()
	}
	return v
}

// sym reads the string of a Sym, which is a name with no more bytes than any
// other.
func (r *reader) sym() string {
	s := r.name()
	if !value.Name(s) {
		r.reject()
	}
	return s
}

func (r *reader) row() []api.Value {
	return readAll(r, api.MaxParts, (*reader).value)
}

func (r *reader) mail() api.Mail {
	return api.Mail{
		ID:      r.Number(),
		Channel: r.name(),
		Key:     r.row(),
		Fields:  r.row(),
	}
}

func (r *reader) item() api.Item {
	return api.Item{
		ID:     r.Number(),
		Since:  r.Number(),
		Type:   r.name(),
		State:  r.name(),
		Attrs:  r.row(),
		Counts: readAll(r, api.MaxParts, (*reader).count),
		Box:    readAll(r, api.MaxBound, (*reader).mail),
	}
}

func (r *reader) dead() api.Dead {
	return api.Dead{
		N:      r.Number(),
		Mail:   r.mail(),
		Reason: r.Small(api.Buried),
	}
}

func (r *reader) event() api.Event {
	return api.Event{
		N:     r.Number(),
		Tick:  r.Number(),
		Item:  r.Number(),
		Name:  r.name(),
		Type:  r.name(),
		State: r.name(),
		Attrs: r.row(),
	}
}

func (r *reader) sub() api.Sub {
	return api.Sub{
		ID:   r.Number(),
		Past: r.Number(),
		Role: r.name(),
	}
}
