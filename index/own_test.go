package index

import (
	"reflect"
	"slices"
	"testing"
	"unsafe"

	"switchyard/api"
)

// span is where bytes lie, and whose they are.
type span struct {
	from, to uintptr
	path     string
}

// memory returns where the lists, with their spare capacity, and the texts of
// a thing lie, those in maps too.
func memory(v reflect.Value, path string) []span {
	var out []span
	switch v.Kind() {
	case reflect.Pointer:
		return memory(v.Elem(), path)
	case reflect.Struct:
		for i := range v.NumField() {
			out = append(out, memory(v.Field(i), path+"."+v.Type().Field(i).Name)...)
		}
	case reflect.Map:
		for l := v.MapRange(); l.Next(); {
			out = append(out, memory(l.Key(), path+" key")...)
			out = append(out, memory(l.Value(), path)...)
		}
	case reflect.Slice:
		whole := v.Slice(0, v.Cap())
		if whole.Len() > 0 {
			out = append(out, span{v.Pointer(), v.Pointer() + uintptr(whole.Len())*v.Type().Elem().Size(), path})
		}
		for i := range whole.Len() {
			out = append(out, memory(whole.Index(i), path)...)
		}
	case reflect.String:
		if n := v.Len(); n > 0 {
			from := uintptr(unsafe.Pointer(unsafe.StringData(v.String())))
			out = append(out, span{from, from + uintptr(n), path})
		}
	}
	return out
}

func apart(t *testing.T, what string, a, b any) {
	t.Helper()
	for _, one := range memory(reflect.ValueOf(a), "") {
		for _, two := range memory(reflect.ValueOf(b), "") {
			if one.from < two.to && two.from < one.to {
				t.Errorf("%s: %q lies in %q", what, one.path, two.path)
			}
		}
	}
}

// filled is an index, and what it was made of.
func filled(t *testing.T) (*Index, api.Def, []api.Item) {
	d := read(t, full)
	items := []api.Item{anA(t, d, 1, 7, "red"), anA(t, d, 2, 7, "red"), aZ(t, d, 3, 4, 5), aZ(t, d, 4, 4, 5)}
	items[0].Box = []api.Mail{{Channel: "c", Key: row(num(7), sym("red")), Fields: row(list(1))}}
	return holding(d, items...), d, items
}

// asFilled checks that an index answers as filled left it.
func asFilled(t *testing.T, what string, x *Index) {
	t.Helper()
	gives(t, what+": Find", x.Find("a", num(7), sym("red")), 1, 2)
	gives(t, what+": Find of a list", x.Find("z", list(4, 5)), 3, 4)
	gives(t, what+": With", x.With("a", "t", text("t")), 1, 2)
	gives(t, what+": With a list", x.With("a", "s", list(7, 2)), 2)
	gives(t, what+": All", x.All("a"), 1, 2)
	gives(t, what+": All", x.All("z"), 3, 4)
}

// TestKept: what an index was made of is changed by its owner, and the index
// stays as it is; it shares no memory with any of it.
func TestKept(t *testing.T) {
	x, d, items := filled(t)
	apart(t, "the choreography", x, d)
	apart(t, "the artifacts", x, items)

	d.Types[0].Name, d.Types[1].Attrs[0].Name, d.Types[0].Key[0] = "other", "other", "n"
	d.Types[0].Key, d.Types[1].Key[0] = d.Types[0].Key[:1], "k"
	slices.Reverse(d.Types[0].Attrs)
	slices.Reverse(d.Types)
	asFilled(t, "a changed choreography", x)

	for i := range items {
		a := &items[i]
		a.ID, a.Type, a.State, a.Since = 99, "other", "end", 99
		for j := range a.Attrs {
			if l := a.Attrs[j].List; len(l) > 0 {
				l[0]++
			}
			a.Attrs[j] = api.Value{}
		}
		a.Attrs = append(a.Attrs[:0], num(99))
	}
	asFilled(t, "changed artifacts", x)
	x.Drop(1)
	x.Drop(4)
	gives(t, "it may be removed", x.Find("a", num(7), sym("red")), 2)
	gives(t, "it may be removed", x.Find("z", list(4, 5)), 3)
}

// TestKeyChanged: a key or a value that was looked up is changed, and the next
// look-up is of what it is then.
func TestKeyChanged(t *testing.T) {
	x, _, _ := filled(t)
	key := row(list(4, 5))
	gives(t, "Find", x.Find("z", key...), 3, 4)
	gives(t, "With", x.With("z", "t", key[0]), 3, 4)
	key[0].List[0] = 5
	gives(t, "Find of another list", x.Find("z", key...))
	gives(t, "With another list", x.With("z", "t", key[0]))
	asFilled(t, "a changed key", x)
}

// TestAnswers: what was answered is changed by its receiver, and the index
// stays as it is; no two answers share memory.
func TestAnswers(t *testing.T) {
	x, d, items := filled(t)
	for what, ask := range map[string]func() []int64{
		"Find": func() []int64 { return x.Find("a", num(7), sym("red")) },
		"With": func() []int64 { return x.With("z", "t", list(4, 5)) },
		"All":  func() []int64 { return x.All("z") },
	} {
		one, two := ask(), ask()
		want(t, what+": two", len(one), 2)
		apart(t, what+": two answers", one, two)
		apart(t, what+": the index", x, one)
		apart(t, what+": the choreography", d, one)
		apart(t, what+": the artifacts", items, one)
		for _, l := range [][]int64{one, two} {
			for i := range l {
				l[i] = 99
			}
			_ = append(l[:0], 98, 97)
		}
		asFilled(t, what, x)
	}
}

// given is all that the functions take.
type given struct {
	Def   api.Def
	Items []api.Item
	Key   []api.Value
}

// spare gives every list of a thing spare capacity with something in it.
func spare(v reflect.Value) {
	switch v.Kind() {
	case reflect.Struct:
		for i := range v.NumField() {
			spare(v.Field(i))
		}
	case reflect.Slice:
		for i := range v.Len() {
			spare(v.Index(i))
		}
		if n := v.Len(); n > 0 {
			v.Set(reflect.AppendSlice(v.Slice3(0, n, n), v.Slice(0, 1)).Slice(0, n))
		}
	}
}

// whole is a thing with what lies in its spare capacity.
func whole(v reflect.Value) {
	switch v.Kind() {
	case reflect.Struct:
		for i := range v.NumField() {
			whole(v.Field(i))
		}
	case reflect.Slice:
		v.Set(v.Slice(0, v.Cap()))
		for i := range v.Len() {
			whole(v.Index(i))
		}
	}
}

func spared(t *testing.T) *given {
	_, d, items := filled(t)
	g := &given{d, items, row(list(4, 5), num(7), sym("red"))}
	spare(reflect.ValueOf(g).Elem())
	return g
}

// TestUnchanged: what is given stays as it is, with its spare capacity.
func TestUnchanged(t *testing.T) {
	g, kept := spared(t), spared(t)
	x := holding(g.Def, g.Items...)
	x.Put(g.Items[1])
	asFilled(t, "with spare capacity", x)
	for n := range len(g.Key) + 1 {
		for _, typ := range []string{"a", "z", "none"} {
			x.Find(typ, g.Key[:n]...)
			x.Find(typ, g.Key[n:]...)
			x.With(typ, "t", g.Key[0])
			x.All(typ)
		}
	}
	for _, a := range g.Items {
		x.Drop(a.ID)
	}
	whole(reflect.ValueOf(g).Elem())
	whole(reflect.ValueOf(kept).Elem())
	want(t, "unchanged", reflect.DeepEqual(g, kept), true)
}
