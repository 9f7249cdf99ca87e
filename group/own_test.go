package group

import (
	"reflect"
	"testing"
	"unsafe"

	"switchyard/api"
)

// span is where bytes lie, and whose they are.
type span struct {
	from, to uintptr
	path     string
}

// memory returns where the lists, with their spare capacity, and the texts of
// a thing lie.
func memory(v reflect.Value, path string) []span {
	var out []span
	switch v.Kind() {
	case reflect.Struct:
		for i := range v.NumField() {
			out = append(out, memory(v.Field(i), path+"."+v.Type().Field(i).Name)...)
		}
	case reflect.Slice:
		whole := v.Slice(0, v.Cap())
		if whole.Len() > 0 {
			out = append(out, span{v.Pointer(), v.Pointer() + uintptr(whole.Len())*v.Type().Elem().Size(), path})
		}
		for i := range whole.Len() {
			out = append(out, memory(whole.Index(i), path)...)
		}
	case reflect.String:
		if n := v.Len(); n > 0 {
			from := uintptr(unsafe.Pointer(unsafe.StringData(v.String())))
			out = append(out, span{from, from + uintptr(n), path})
		}
	}
	return out
}

func apart(t *testing.T, what string, a, b any) {
	t.Helper()
	for _, one := range memory(reflect.ValueOf(a), "") {
		for _, two := range memory(reflect.ValueOf(b), "") {
			if one.from < two.to && two.from < one.to {
				t.Errorf("%s: %q lies in %q", what, one.path, two.path)
			}
		}
	}
}

// within checks that no two parts of an answer lie in each other.
func within(t *testing.T, what string, x any) {
	t.Helper()
	all := memory(reflect.ValueOf(x), "")
	for i, one := range all {
		for _, two := range all[:i] {
			if one.from < two.to && two.from < one.to {
				t.Errorf("%s: %q lies in %q", what, one.path, two.path)
			}
		}
	}
}

// spare gives every list of a thing spare capacity with something in it.
func spare(v reflect.Value) {
	switch v.Kind() {
	case reflect.Struct:
		for i := range v.NumField() {
			spare(v.Field(i))
		}
	case reflect.Slice:
		for i := range v.Len() {
			spare(v.Index(i))
		}
		if n := v.Len(); n > 0 {
			v.Set(reflect.AppendSlice(v.Slice3(0, n, n), v.Slice(0, 1)).Slice(0, n))
		}
	}
}

// whole is a thing with what lies in its spare capacity.
func whole(v reflect.Value) {
	switch v.Kind() {
	case reflect.Struct:
		for i := range v.NumField() {
			whole(v.Field(i))
		}
	case reflect.Slice:
		v.Set(v.Slice(0, v.Cap()))
		for i := range v.Len() {
			whole(v.Index(i))
		}
	}
}

// given is all that the functions take.
type given struct {
	Def   api.Def
	Items []api.Item
	V     api.Value
}

// spared are artifacts in any order, some of which are members of byL, and all
// of whose lists have spare capacity.
func spared(t *testing.T) *given {
	g := &given{read(t, full), []api.Item{made(9), made(4, in("end")), made(2), ofB(1), made(5), made(3, with(6, list(2)))}, list(1, 2)}
	spare(reflect.ValueOf(g).Elem())
	return g
}

func members(t *testing.T, g *given) []int64 {
	t.Helper()
	ids, bad := Members(g.Def, g.Items, "byL", g.V)
	want(t, "Members", bad, api.OK)
	return ids
}

func gathered(t *testing.T, g *given) []api.Item {
	t.Helper()
	l, bad := Gather(g.Def, g.Items, "byL", g.V, 9)
	want(t, "Gather", bad, api.OK)
	return l
}

// TestOwn: what is answered shares no memory with what was given, nor with
// another answer, nor any of its parts with another.
func TestOwn(t *testing.T) {
	g := spared(t)
	one, two, ids, more := gathered(t, g), gathered(t, g), members(t, g), members(t, g)
	same(t, "the members", ids, []int64{2, 5, 9})
	want(t, "how many", len(one), 3)
	for _, x := range []any{one, ids} {
		apart(t, "what was given", *g, x)
		apart(t, "another answer", two, x)
		apart(t, "another answer", more, x)
		within(t, "an answer", x)
	}
}

// TestUnchanged: what is given stays as it is, with its spare capacity, whether
// the members may move or not, and whatever becomes of an answer.
func TestUnchanged(t *testing.T) {
	for _, name := range []string{"byL", "byN", "stay", "two", "open", "close", "none"} {
		for _, now := range []int64{-1, 0, 9} {
			g, kept := spared(t), spared(t)
			ids, _ := Members(g.Def, g.Items, name, g.V)
			l, _ := Gather(g.Def, g.Items, name, g.V, now)
			spoil(reflect.ValueOf(&ids).Elem())
			spoil(reflect.ValueOf(&l).Elem())
			Members(g.Def, g.Items, name, num(5))
			l, _ = Gather(g.Def, g.Items, name, num(5), now)
			spoil(reflect.ValueOf(&l).Elem())
			whole(reflect.ValueOf(g).Elem())
			whole(reflect.ValueOf(kept).Elem())
			same(t, name, *g, *kept)
		}
	}
}

// TestLater: what was answered stays as it is, whatever becomes of what was
// given, or of another answer.
func TestLater(t *testing.T) {
	g := spared(t)
	one, two, ids, more := gathered(t, g), gathered(t, g), members(t, g), members(t, g)
	wanted := gathered(t, spared(t))
	spoil(reflect.ValueOf(&two).Elem())
	spoil(reflect.ValueOf(&more).Elem())
	same(t, "another answer was changed", gathered(t, g), wanted)
	spoil(reflect.ValueOf(&g.Items).Elem())
	spoil(reflect.ValueOf(&g.V).Elem())
	same(t, "what was given was changed", one, wanted)
	same(t, "what was given was changed", ids, []int64{2, 5, 9})
}

// spoil changes all numbers and texts of a thing, also in spare capacity.
func spoil(v reflect.Value) {
	switch v.Kind() {
	case reflect.Struct:
		for i := range v.NumField() {
			spoil(v.Field(i))
		}
	case reflect.Slice:
		whole := v.Slice(0, v.Cap())
		for i := range whole.Len() {
			spoil(whole.Index(i))
		}
	case reflect.String:
		v.SetString("spoiled")
	case reflect.Int, reflect.Int64:
		v.SetInt(99)
	}
}
