package route

import (
	"reflect"
	"testing"

	"switchyard/api"
)

// given is all that the functions take, but for an index.
type given struct {
	Def   api.Def
	Items []api.Item
	Key   []api.Value
}

// spare gives every list of a thing spare capacity with something in it.
func spare(v reflect.Value) {
	switch v.Kind() {
	case reflect.Struct:
		for i := range v.NumField() {
			spare(v.Field(i))
		}
	case reflect.Slice:
		for i := range v.Len() {
			spare(v.Index(i))
		}
		if n := v.Len(); n > 0 {
			v.Set(reflect.AppendSlice(v.Slice3(0, n, n), v.Slice(0, 1)).Slice(0, n))
		}
	}
}

// whole is a thing with what lies in its spare capacity.
func whole(v reflect.Value) {
	switch v.Kind() {
	case reflect.Struct:
		for i := range v.NumField() {
			whole(v.Field(i))
		}
	case reflect.Slice:
		v.Set(v.Slice(0, v.Cap()))
		for i := range v.Len() {
			whole(v.Index(i))
		}
	}
}

func spared(t *testing.T) *given {
	g := &given{read(t, full), append(some(3), made("a", 1, "blue", 1), made("a", 2, "red", 1), in(made("a", 2, "red", 1), "end")), redOne()}
	spare(reflect.ValueOf(g).Elem())
	return g
}

// TestUnchanged: what is given stays as it is, with its spare capacity.
func TestUnchanged(t *testing.T) {
	g, kept := spared(t), spared(t)
	x := living(g.Def, g.Items)
	for _, channel := range []string{"c13s", "c24", "c11", "toB", "toZ", "none"} {
		for n := range len(g.Key) + 1 {
			Over(g.Def, g.Items, channel, g.Key[:n]...)
			Pick(g.Def, x, channel, g.Key[:n]...)
		}
	}
	whole(reflect.ValueOf(g).Elem())
	whole(reflect.ValueOf(kept).Elem())
	want(t, "unchanged", reflect.DeepEqual(g, kept), true)
}

// TestAnswers: what was answered is changed by its receiver, and what is
// answered then is the same as before.
func TestAnswers(t *testing.T) {
	d := read(t, full)
	items := some(3)
	x := living(d, items)
	for _, ask := range []func() answer{
		func() answer { return over(d, items, "c24", redOne()...) },
		func() answer { return pick(d, x, "c24", redOne()...) },
	} {
		for range 3 {
			a, b := ask(), ask()
			a.ids[0], a.ids[2] = 99, 98
			_ = append(a.ids[:0], 97)
			same(t, "another answer", b, goes(0, 10, 20))
			same(t, "the next answer", ask(), goes(0, 10, 20))
		}
	}
}

// TestKept: an index answers Pick as it was filled, whatever becomes of what it
// was filled with, and as it is filled then.
func TestKept(t *testing.T) {
	d := read(t, full)
	items := some(3)
	x := living(d, items)
	items[0].Attrs[0], items[1].Attrs[1], items[2].Type = num(2), sym("blue"), "b"
	same(t, "as it was filled", pick(d, x, "c24", redOne()...), goes(0, 10, 20))
	x.Put(made("a", -1, "red", 1))
	same(t, "one more", pick(d, x, "c24", redOne()...), goes(-1, 0, 10, 20))
	x.Put(made("a", 10, "blue", 1))
	same(t, "one with another key", pick(d, x, "c24", redOne()...), goes(-1, 0, 20))
	for _, id := range []int64{0, 20} {
		x.Drop(id)
	}
	same(t, "two fewer", pick(d, x, "c24", redOne()...), lost(api.TooFew))
	x.Drop(-1)
	same(t, "none", pick(d, x, "c24", redOne()...), lost(api.NoMatch))
}
