package code

import (
	"encoding/binary"
	"reflect"
	"strings"

	"switchyard/api"
	"switchyard/value"
)

// walk goes through bytes by the words of the chapters, not by the package.
// It stops by a panic with the error.
type walk struct {
	rest string
}

// walked is the object whose encoding is s, or the first error.
func walked(what sort, s string) (x any, bad api.Errno) {
	defer func() {
		switch stop := recover().(type) {
		case nil:
		case api.Errno:
			x, bad = what.zero(), stop
		default:
			panic(stop)
		}
	}()
	w := &walk{s}
	v := reflect.New(what.of).Elem()
	w.object(v)
	if w.rest != "" {
		panic(api.ErrForm)
	}
	return v.Interface(), api.OK
}

func (w *walk) take(n int) string {
	if n > len(w.rest) {
		panic(api.ErrShort)
	}
	s := w.rest[:n]
	w.rest = w.rest[n:]
	return s
}

func (w *walk) count() uint64 {
	n, size := binary.Uvarint([]byte(w.rest))
	if size == 0 && len(w.rest) < 10 {
		panic(api.ErrShort)
	}
	if size <= 0 || len(varint(n)) != size {
		panic(api.ErrForm)
	}
	w.take(size)
	return n
}

func (w *walk) small(most uint64) int {
	n := w.count()
	if n > most {
		panic(api.ErrLong)
	}
	return int(n)
}

func (w *walk) number() int64 {
	n := w.count()
	if n%2 == 1 {
		return -int64(n/2) - 1
	}
	return int64(n / 2)
}

func (w *walk) value(v *api.Value) {
	v.Kind = int(w.take(1)[0])
	switch v.Kind {
	case 0:
	case 1:
		v.Num = w.number()
	case 2:
		v.Num = int64(w.take(1)[0])
		if v.Num > 1 {
			panic(api.ErrForm)
		}
	case 3:
		v.Text = w.take(w.small(64))
	case 4:
		v.Text = w.take(w.small(24))
		if !value.Name(v.Text) {
			panic(api.ErrForm)
		}
	case 5:
		for range w.small(16) {
			v.List = append(v.List, w.number())
		}
	default:
		panic(api.ErrForm)
	}
}

func (w *walk) object(v reflect.Value) {
	if one, is := v.Addr().Interface().(*api.Value); is {
		w.value(one)
		return
	}
	for _, name := range strings.Fields(order[v.Type().Name()]) {
		w.field(v.FieldByName(name))
	}
}

func (w *walk) field(v reflect.Value) {
	switch one := v.Addr().Interface().(type) {
	case *int64:
		*one = w.number()
	case *string:
		*one = w.take(w.small(24))
	case *int:
		*one = w.small(5)
	case *api.Mail:
		w.object(v)
	case *[]int:
		for range w.small(16) {
			*one = append(*one, w.small(1000))
		}
	case *[]api.Value:
		w.elements(v, w.small(16))
	case *[]api.Mail:
		w.elements(v, w.small(4096))
	}
}

func (w *walk) elements(v reflect.Value, n int) {
	for range n {
		v.Set(reflect.Append(v, reflect.Zero(v.Type().Elem())))
		w.object(v.Index(v.Len() - 1))
	}
}
