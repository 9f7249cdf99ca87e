package feed

import (
	"reflect"
	"testing"
	"unsafe"

	"switchyard/api"
)

// span is where bytes lie, and whose they are.
type span struct {
	from, to uintptr
	path     string
}

// memory returns where the lists, with their spare capacity, and the texts of
// a thing lie.
func memory(v reflect.Value, path string) []span {
	var out []span
	switch v.Kind() {
	case reflect.Struct:
		for i := range v.NumField() {
			out = append(out, memory(v.Field(i), path+"."+v.Type().Field(i).Name)...)
		}
	case reflect.Slice:
		whole := v.Slice(0, v.Cap())
		if whole.Len() > 0 {
			out = append(out, span{v.Pointer(), v.Pointer() + uintptr(whole.Len())*v.Type().Elem().Size(), path})
		}
		for i := range whole.Len() {
			out = append(out, memory(whole.Index(i), path)...)
		}
	case reflect.String:
		if n := v.Len(); n > 0 {
			from := uintptr(unsafe.Pointer(unsafe.StringData(v.String())))
			out = append(out, span{from, from + uintptr(n), path})
		}
	}
	return out
}

func apart(t *testing.T, what string, a, b any) {
	t.Helper()
	for _, one := range memory(reflect.ValueOf(a), "") {
		for _, two := range memory(reflect.ValueOf(b), "") {
			if one.from < two.to && two.from < one.to {
				t.Errorf("%s: %q lies in %q", what, one.path, two.path)
			}
		}
	}
}

// within checks that no two parts of an answer lie in each other.
func within(t *testing.T, what string, x any) {
	t.Helper()
	all := memory(reflect.ValueOf(x), "")
	for i, one := range all {
		for _, two := range all[:i] {
			if one.from < two.to && two.from < one.to {
				t.Errorf("%s: %q lies in %q", what, one.path, two.path)
			}
		}
	}
}

// spare gives every list of a thing spare capacity with something in it.
func spare(v reflect.Value) {
	switch v.Kind() {
	case reflect.Struct:
		for i := range v.NumField() {
			spare(v.Field(i))
		}
	case reflect.Slice:
		for i := range v.Len() {
			spare(v.Index(i))
		}
		if n := v.Len(); n > 0 {
			v.Set(reflect.AppendSlice(v.Slice3(0, n, n), v.Slice(0, 1)).Slice(0, n))
		}
	}
}

// whole is a thing with what lies in its spare capacity.
func whole(v reflect.Value) {
	switch v.Kind() {
	case reflect.Struct:
		for i := range v.NumField() {
			whole(v.Field(i))
		}
	case reflect.Slice:
		v.Set(v.Slice(0, v.Cap()))
		for i := range v.Len() {
			whole(v.Index(i))
		}
	}
}

// given is all that the functions take.
type given struct {
	Def    api.Def
	Events []api.Event
}

// spared are events, all of whose lists have spare capacity.
func spared(t *testing.T) *given {
	g := &given{read(t, source), events(fresh(1), stale(3), fresh(4), fresh(7), stale(8), fresh(9))}
	spare(reflect.ValueOf(g).Elem())
	return g
}

// polled asks for some of the events that r sees.
func polled(t *testing.T, g *given, n int) []api.Seen {
	t.Helper()
	out, _, bad := Poll(g.Def, "r", g.Events, 0, n)
	want(t, "Poll", bad, api.OK)
	want(t, "how many", len(out), min(n, 4))
	return out
}

// TestOwn: what is answered shares no memory with what was given, nor with
// another answer, nor any of its parts with another.
func TestOwn(t *testing.T) {
	g := spared(t)
	for n := 1; n < 6; n++ {
		one, two := polled(t, g, n), polled(t, g, n)
		apart(t, "what was given", *g, one)
		apart(t, "another answer", two, one)
		within(t, "an answer", one)
	}
}

// TestUnchanged: what is given stays as it is, with its spare capacity, also
// beside an error, and whatever becomes of an answer.
func TestUnchanged(t *testing.T) {
	for _, role := range []string{"r", "all", "where", "nobody", "none"} {
		for _, past := range []int64{-1, 0, 4, 8, 9, 12} {
			for n := range 7 {
				for _, first := range []int64{1, 5} { // of which the second doesn't rise
					g, kept := spared(t), spared(t)
					g.Events[0].N, kept.Events[0].N = first, first
					out, _, _ := Poll(g.Def, role, g.Events, past, n)
					Left(g.Def, role, g.Events, past)
					want(t, "right", Right(g.Events), first == 1)
					spoil(reflect.ValueOf(&out).Elem())
					whole(reflect.ValueOf(g).Elem())
					whole(reflect.ValueOf(kept).Elem())
					same(t, role, *g, *kept)
				}
			}
		}
	}
}

// TestLater: what was answered stays as it is, whatever becomes of what was
// given, or of another answer.
func TestLater(t *testing.T) {
	for n := 1; n < 6; n++ {
		g := spared(t)
		one, two := polled(t, g, n), polled(t, g, n)
		spoil(reflect.ValueOf(&two).Elem())
		wanted := told([]int64{1, 4, 7, 9}[:min(n, 4)]...)
		same(t, "another answer was changed", polled(t, g, n), wanted)
		spoil(reflect.ValueOf(&g.Events).Elem())
		same(t, "what was given was changed", one, wanted)
	}
}

// spoil changes all numbers and texts of a thing, also in spare capacity.
func spoil(v reflect.Value) {
	switch v.Kind() {
	case reflect.Struct:
		for i := range v.NumField() {
			spoil(v.Field(i))
		}
	case reflect.Slice:
		whole := v.Slice(0, v.Cap())
		for i := range whole.Len() {
			spoil(whole.Index(i))
		}
	case reflect.String:
		v.SetString("spoiled")
	case reflect.Int, reflect.Int64:
		v.SetInt(99)
	}
}
