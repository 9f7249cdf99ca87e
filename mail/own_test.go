package mail

import (
	"reflect"
	"testing"
	"unsafe"

	"switchyard/api"
)

// span is where bytes lie, and whose they are.
type span struct {
	from, to uintptr
	path     string
}

// memory returns where the lists, with their spare capacity, and the texts of
// a thing lie.
func memory(v reflect.Value, path string) []span {
	var out []span
	switch v.Kind() {
	case reflect.Struct:
		for i := range v.NumField() {
			out = append(out, memory(v.Field(i), path+"."+v.Type().Field(i).Name)...)
		}
	case reflect.Slice:
		whole := v.Slice(0, v.Cap())
		if whole.Len() > 0 {
			out = append(out, span{v.Pointer(), v.Pointer() + uintptr(whole.Len())*v.Type().Elem().Size(), path})
		}
		for i := range whole.Len() {
			out = append(out, memory(whole.Index(i), path)...)
		}
	case reflect.String:
		if n := v.Len(); n > 0 {
			from := uintptr(unsafe.Pointer(unsafe.StringData(v.String())))
			out = append(out, span{from, from + uintptr(n), path})
		}
	}
	return out
}

// apart checks that no part of one thing lies in another one.
func apart(t *testing.T, what string, all ...any) {
	t.Helper()
	for i, a := range all {
		for _, b := range all[:i] {
			for _, one := range memory(reflect.ValueOf(a), "") {
				for _, two := range memory(reflect.ValueOf(b), "") {
					if one.from < two.to && two.from < one.to {
						t.Errorf("%s: %q lies in %q", what, one.path, two.path)
					}
				}
			}
		}
	}
}

// spoil changes all that a message has.
func spoil(m *api.Mail) {
	for _, l := range [][]api.Value{m.Key, m.Fields} {
		for i := range l {
			for j := range l[i].List {
				l[i].List[j]++
			}
			_ = append(l[i].List[:0], 99)
			l[i].Num++
			l[i].Text = "spoilt"
		}
		_ = append(l[:0], num(99))
	}
	m.ID++
	m.Channel = "spoilt"
}

// TestKept: a message is changed by its owner, and the queue's stays as it is.
func TestKept(t *testing.T) {
	wanted := messages()
	offered, filled := messages(), messages()
	b := New(len(offered))
	for i := range offered {
		b.Offer(offered[i])
		spoil(&offered[i])
	}
	f, _ := Fill(len(filled), filled...)
	for i := range filled {
		spoil(&filled[i])
	}
	clear(filled)
	holds(t, "offered", b, 0, wanted...)
	holds(t, "filled", f, 0, wanted...)
	takes(t, "offered", b, wanted...)
	takes(t, "filled", f, wanted...)
}

// TestAnswers: what was answered is changed by its receiver, and the queue's
// messages stay as they are.
func TestAnswers(t *testing.T) {
	wanted := messages()
	b, _ := Fill(len(wanted), wanted...)
	for range 2 {
		l := b.All()
		for i := range l {
			spoil(&l[i])
		}
		clear(l)
		_ = append(l[:0], api.Mail{ID: 99})
		holds(t, "All, changed", b, 0, wanted...)
	}
	for i := range wanted {
		m, _ := b.Take()
		spoil(&m)
		holds(t, "Take, changed", b, i+1, wanted[i+1:]...)
		same(t, "what was handed in", wanted, messages())
	}
}

// TestOwn: no answer shares memory with another one, nor with what was handed
// in, where that lies in itself.
func TestOwn(t *testing.T) {
	l := messages()
	l[0].Key = l[0].Fields
	l[6] = l[0]
	b, _ := Fill(len(l), l...)
	one, two := b.All(), b.All()
	apart(t, "All", l, one, two)
	all := []any{l, one, two}
	for range l {
		m, _ := b.Take()
		all = append(all, m)
	}
	apart(t, "Take", all...)
	for _, m := range one {
		apart(t, "one message", m.Key, m.Fields)
	}
	apart(t, "two alike", one[0], one[6])

	b = New(2)
	b.Offer(l[0])
	b.Offer(l[0])
	one = b.All()
	first, _ := b.Take()
	second, _ := b.Take()
	apart(t, "one message twice", l[0], first, second, one[0], one[1])
}

// spare gives every list of a thing spare capacity with something in it.
func spare(v reflect.Value) {
	switch v.Kind() {
	case reflect.Struct:
		for i := range v.NumField() {
			spare(v.Field(i))
		}
	case reflect.Slice:
		for i := range v.Len() {
			spare(v.Index(i))
		}
		if n := v.Len(); n > 0 {
			v.Set(reflect.AppendSlice(v.Slice3(0, n, n), v.Slice(0, 1)).Slice(0, n))
		}
	}
}

// whole is a thing with what lies in its spare capacity.
func whole(v reflect.Value) {
	switch v.Kind() {
	case reflect.Struct:
		for i := range v.NumField() {
			whole(v.Field(i))
		}
	case reflect.Slice:
		v.Set(v.Slice(0, v.Cap()))
		for i := range v.Len() {
			whole(v.Index(i))
		}
	}
}

func spared() []api.Mail {
	l := messages()
	spare(reflect.ValueOf(&l).Elem())
	return l
}

// TestUnchanged: what is handed in stays as it is, with its spare capacity.
func TestUnchanged(t *testing.T) {
	l, kept := spared(), spared()
	b := New(3)
	for _, m := range l {
		b.Offer(m)
	}
	for most := range len(l) + 2 {
		if b, fits := Fill(most, l...); fits {
			b.All()
			b.Take()
			b.Offer(l[0])
		}
	}
	whole(reflect.ValueOf(&l).Elem())
	whole(reflect.ValueOf(&kept).Elem())
	same(t, "unchanged", l, kept)
}
