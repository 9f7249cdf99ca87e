package view

import (
	"reflect"
	"testing"
	"unsafe"

	"switchyard/api"
	"switchyard/value"
)

// span is where bytes lie, and whose they are.
type span struct {
	from, to uintptr
	path     string
}

// memory returns where the lists, with their spare capacity, and the texts of
// a thing lie.
func memory(v reflect.Value, path string) []span {
	var out []span
	switch v.Kind() {
	case reflect.Struct:
		for i := range v.NumField() {
			out = append(out, memory(v.Field(i), path+"."+v.Type().Field(i).Name)...)
		}
	case reflect.Slice:
		whole := v.Slice(0, v.Cap())
		if whole.Len() > 0 {
			out = append(out, span{v.Pointer(), v.Pointer() + uintptr(whole.Len())*v.Type().Elem().Size(), path})
		}
		for i := range whole.Len() {
			out = append(out, memory(whole.Index(i), path)...)
		}
	case reflect.String:
		if n := v.Len(); n > 0 {
			from := uintptr(unsafe.Pointer(unsafe.StringData(v.String())))
			out = append(out, span{from, from + uintptr(n), path})
		}
	}
	return out
}

func apart(t *testing.T, what string, a, b any) {
	t.Helper()
	for _, one := range memory(reflect.ValueOf(a), "") {
		for _, two := range memory(reflect.ValueOf(b), "") {
			if one.from < two.to && two.from < one.to {
				t.Errorf("%s: %q lies in %q", what, one.path, two.path)
			}
		}
	}
}

// within checks that no two parts of an answer lie in each other.
func within(t *testing.T, what string, x any) {
	t.Helper()
	all := memory(reflect.ValueOf(x), "")
	for i, one := range all {
		for _, two := range all[:i] {
			if one.from < two.to && two.from < one.to {
				t.Errorf("%s: %q lies in %q", what, one.path, two.path)
			}
		}
	}
}

// spare gives every list of a thing spare capacity with something in it.
func spare(v reflect.Value) {
	switch v.Kind() {
	case reflect.Struct:
		for i := range v.NumField() {
			spare(v.Field(i))
		}
	case reflect.Slice:
		for i := range v.Len() {
			spare(v.Index(i))
		}
		if n := v.Len(); n > 0 {
			v.Set(reflect.AppendSlice(v.Slice3(0, n, n), v.Slice(0, 1)).Slice(0, n))
		}
	}
}

// whole is a thing with what lies in its spare capacity.
func whole(v reflect.Value) {
	switch v.Kind() {
	case reflect.Struct:
		for i := range v.NumField() {
			whole(v.Field(i))
		}
	case reflect.Slice:
		v.Set(v.Slice(0, v.Cap()))
		for i := range v.Len() {
			whole(v.Index(i))
		}
	}
}

// given is all that the functions take.
type given struct {
	Def   api.Def
	Items []api.Item
	Event api.Event
}

// answers is all that they answer.
type answers struct {
	View  api.View
	Seen  api.Seen
	Views []api.View
}

// spared are artifacts in any order and an event, all of whose lists have spare
// capacity.
func spared(t *testing.T) *given {
	g := &given{read(t, full+roles+"role w { sees a(l, c, t) in mid, new where c == 'blue && len(l) + len(t) > 0; may a.go; }"), []api.Item{made(9), made(4, in("end")), made(2, in("mid")), ofB(1), made(9, with(5, list(2)))}, event(7, "go", made(3))}
	spare(reflect.ValueOf(g).Elem())
	return g
}

// asked asks for all that a role sees.
func asked(t *testing.T, g *given, role string) answers {
	t.Helper()
	var out answers
	var seen, also bool
	var bad api.Errno
	out.View, seen = See(g.Def, role, g.Items[0])
	out.Seen, also = Happened(g.Def, role, g.Event)
	out.Views, bad = Query(g.Def, role, "a", g.Items)
	want(t, "seen", seen && also && bad == api.OK && len(out.Views) > 2, true)
	want(t, "may", May(g.Def, role, "a", "go"), role != "turned")
	return out
}

// TestOwn: what is answered shares no memory with what was given, nor with
// another answer, nor any of its parts with another.
func TestOwn(t *testing.T) {
	g := spared(t)
	for _, role := range []string{"all", "turned", "some", "w"} {
		one, two := asked(t, g, role), asked(t, g, role)
		apart(t, "what was given", *g, one)
		apart(t, "another answer", two, one)
		within(t, "an answer", one)
	}
}

// TestUnchanged: what is given stays as it is, with its spare capacity, whether
// it is seen or not, and whatever becomes of an answer.
func TestUnchanged(t *testing.T) {
	for _, role := range []string{"all", "turned", "some", "w", "bare", "only", "nobody", "none"} {
		for _, typ := range []string{"a", "b", "c", "none"} {
			for _, v := range append(notValues(), api.Value{}, sym("blue")) {
				g, kept := spared(t), spared(t)
				for _, h := range []*given{g, kept} {
					h.Items[0].Attrs[4], h.Event.Attrs[4] = v, value.Twin(v)[0]
				}
				var got answers
				got.View, _ = See(g.Def, role, g.Items[0])
				got.Seen, _ = Happened(g.Def, role, g.Event)
				got.Views, _ = Query(g.Def, role, typ, g.Items)
				May(g.Def, role, typ, "go")
				spoil(reflect.ValueOf(&got).Elem())
				whole(reflect.ValueOf(g).Elem())
				whole(reflect.ValueOf(kept).Elem())
				same(t, role, *g, *kept)
			}
		}
	}
}

// TestLater: what was answered stays as it is, whatever becomes of what was
// given, or of another answer.
func TestLater(t *testing.T) {
	for _, role := range []string{"all", "turned", "some", "w"} {
		g := spared(t)
		wanted := asked(t, spared(t), role)
		one, two := asked(t, g, role), asked(t, g, role)
		spoil(reflect.ValueOf(&two).Elem())
		same(t, "another answer was changed", asked(t, g, role), wanted)
		spoil(reflect.ValueOf(&g.Items).Elem())
		spoil(reflect.ValueOf(&g.Event).Elem())
		same(t, "what was given was changed", one, wanted)
	}
}

// spoil changes all numbers and texts of a thing, also in spare capacity.
func spoil(v reflect.Value) {
	switch v.Kind() {
	case reflect.Struct:
		for i := range v.NumField() {
			spoil(v.Field(i))
		}
	case reflect.Slice:
		whole := v.Slice(0, v.Cap())
		for i := range whole.Len() {
			spoil(whole.Index(i))
		}
	case reflect.String:
		v.SetString("spoiled")
	case reflect.Int, reflect.Int64:
		v.SetInt(99)
	}
}
