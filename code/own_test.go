package code

import (
	"reflect"
	"strings"
	"testing"
	"unsafe"

	"switchyard/api"
)

// span is where bytes lie, and whose they are.
type span struct {
	from, to uintptr
	path     string
}

// memory returns where the lists, with their spare capacity, and the texts of
// a thing lie.
func memory(v reflect.Value, path string) []span {
	var out []span
	switch v.Kind() {
	case reflect.Struct:
		for i := range v.NumField() {
			out = append(out, memory(v.Field(i), path+"."+v.Type().Field(i).Name)...)
		}
	case reflect.Slice:
		whole := v.Slice(0, v.Cap())
		if whole.Len() > 0 {
			out = append(out, span{v.Pointer(), v.Pointer() + uintptr(whole.Len())*v.Type().Elem().Size(), path})
		}
		for i := range whole.Len() {
			out = append(out, memory(whole.Index(i), path)...)
		}
	case reflect.String:
		// The bytes of short texts may be the run-time's own, which all share.
		if n := v.Len(); n > 1 {
			from := uintptr(unsafe.Pointer(unsafe.StringData(v.String())))
			out = append(out, span{from, from + uintptr(n), path})
		}
	}
	return out
}

func apart(t *testing.T, what string, a, b any) {
	t.Helper()
	for _, one := range memory(reflect.ValueOf(a), "") {
		for _, two := range memory(reflect.ValueOf(b), "") {
			if one.from < two.to && two.from < one.to {
				t.Errorf("%s: %q lies in %q", what, one.path, two.path)
			}
		}
	}
}

// within checks that no two parts of an answer lie in each other.
func within(t *testing.T, what string, x any) {
	t.Helper()
	all := memory(reflect.ValueOf(x), "")
	for i, one := range all {
		for _, two := range all[:i] {
			if one.from < two.to && two.from < one.to {
				t.Errorf("%s: %q lies in %q", what, one.path, two.path)
			}
		}
	}
}

// TestOwn: an answer shares no memory with what was given, nor with another
// answer, nor any of its parts with another.
func TestOwn(t *testing.T) {
	r := new(dice(15))
	all := samples()
	for range 300 {
		all = append(all, r.object())
	}
	all = append(all, api.Value{Kind: api.Text, Text: strings.Repeat("a", 64)})
	for _, x := range all {
		sort := sortFor(x)
		s, _ := sort.put(x)
		again, _ := sort.put(x)
		apart(t, "Put of "+sort.name, s, x)
		apart(t, "two Puts of "+sort.name, s, again)
		one, _ := sort.get(s)
		two, _ := sort.get(s)
		apart(t, "Get of "+sort.name, one, s)
		apart(t, "two Gets of "+sort.name, one, two)
		within(t, "Get of "+sort.name, one)
	}
}

// spare gives every list of a thing spare capacity with something in it.
func spare(v reflect.Value) {
	switch v.Kind() {
	case reflect.Struct:
		for i := range v.NumField() {
			spare(v.Field(i))
		}
	case reflect.Slice:
		if v.Len() == 0 {
			return
		}
		for i := range v.Len() {
			spare(v.Index(i))
		}
		v.Set(reflect.AppendSlice(v, v.Slice(0, 1)).Slice(0, v.Len()))
	}
}

// whole is a thing with what lies in its spare capacity.
func whole(v reflect.Value) {
	switch v.Kind() {
	case reflect.Struct:
		for i := range v.NumField() {
			whole(v.Field(i))
		}
	case reflect.Slice:
		v.Set(v.Slice(0, v.Cap()))
		for i := range v.Len() {
			whole(v.Index(i))
		}
	}
}

// TestUnchanged: what is given stays as it is, with its spare capacity; also
// where it is not encodable.
func TestUnchanged(t *testing.T) {
	for i, sample := range samples() {
		for _, wrong := range []bool{false, true} {
			of := reflect.TypeOf(sample)
			x, kept := reflect.New(of).Elem(), reflect.New(of).Elem()
			x.Set(reflect.ValueOf(samples()[i]))
			kept.Set(reflect.ValueOf(samples()[i]))
			for _, v := range []reflect.Value{x, kept} {
				spare(v)
				if wrong {
					spoilLast(v)
				}
			}
			_, bad := sortFor(sample).put(x.Interface())
			want(t, of.Name(), bad == api.OK, !wrong)
			whole(x)
			whole(kept)
			same(t, of.Name(), x.Interface(), kept.Interface())
		}
	}
}

// spoilLast makes an object one that is not encodable, by its last part that
// can be.
func spoilLast(v reflect.Value) {
	all := spots(v, "")
	for i := len(all) - 1; i >= 0; i-- {
		for _, c := range changesOf(all[i].path, all[i].v) {
			if !c.right {
				all[i].v.Set(reflect.ValueOf(c.to))
				return
			}
		}
	}
}
