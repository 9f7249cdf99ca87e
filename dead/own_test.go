package dead

import (
	"reflect"
	"testing"
	"unsafe"

	"switchyard/api"
)

// span is where bytes lie, and whose they are.
type span struct {
	from, to uintptr
	path     string
}

// memory returns where the lists, with their spare capacity, and the texts of
// a thing lie.
func memory(v reflect.Value, path string) []span {
	var out []span
	switch v.Kind() {
	case reflect.Struct:
		for i := range v.NumField() {
			out = append(out, memory(v.Field(i), path+"."+v.Type().Field(i).Name)...)
		}
	case reflect.Slice:
		whole := v.Slice(0, v.Cap())
		if whole.Len() > 0 {
			out = append(out, span{v.Pointer(), v.Pointer() + uintptr(whole.Len())*v.Type().Elem().Size(), path})
		}
		for i := range whole.Len() {
			out = append(out, memory(whole.Index(i), path)...)
		}
	case reflect.String:
		if n := v.Len(); n > 0 {
			from := uintptr(unsafe.Pointer(unsafe.StringData(v.String())))
			out = append(out, span{from, from + uintptr(n), path})
		}
	}
	return out
}

// apart checks that no part of one thing lies in another one.
func apart(t *testing.T, what string, all ...any) {
	t.Helper()
	for i, a := range all {
		for _, b := range all[:i] {
			for _, one := range memory(reflect.ValueOf(a), "") {
				for _, two := range memory(reflect.ValueOf(b), "") {
					if one.from < two.to && two.from < one.to {
						t.Errorf("%s: %q lies in %q", what, one.path, two.path)
					}
				}
			}
		}
	}
}

// within checks that no two parts of an answer lie in each other.
func within(t *testing.T, what string, x any) {
	t.Helper()
	all := memory(reflect.ValueOf(x), "")
	for i, one := range all {
		for _, two := range all[:i] {
			if one.from < two.to && two.from < one.to {
				t.Errorf("%s: %q lies in %q", what, one.path, two.path)
			}
		}
	}
}

// TestOwn: what is answered is nobody else's, also where what was handed in
// lies in itself.
func TestOwn(t *testing.T) {
	l := letters(1, 2, 3, 4, 5, 6, 1)
	l[0].Mail.Key = l[0].Mail.Fields
	l[6].Mail, l[2].Mail = l[0].Mail, l[0].Mail
	m := l[0].Mail
	for what, ask := range map[string]func() any{
		"Put":            func() any { l, _ := Put(l, 9, m, api.Over, 9); return l },
		"Put into none":  func() any { l, _ := Put(nil, 9, m, api.Over, 9); return l },
		"Put into spare": func() any { l, _ := Put(l[:3], 9, m, api.Over, 9); return l },
		"Find":           func() any { x, _ := Find(l, 1); return x },
		"Drop":           func() any { l, _ := Drop(l, 2); return l },
		"Drop at first":  func() any { l, _ := Drop(l[:3], 1); return l },
		"Drop at last":   func() any { l, _ := Drop(l[:3], 3); return l },
	} {
		one, two := ask(), ask()
		apart(t, what, given{l, m}, one, two)
		within(t, what, one)
	}
}

// spoil changes all that letters have.
func spoil(all []api.Dead) {
	for i := range all {
		for _, l := range [][]api.Value{all[i].Mail.Key, all[i].Mail.Fields} {
			for i := range l {
				for j := range l[i].List {
					l[i].List[j]++
				}
				_ = append(l[i].List[:0], 99)
				l[i].Num++
				l[i].Text = "spoilt"
			}
			_ = append(l[:0], num(99))
		}
		all[i] = api.Dead{N: 99}
	}
	_ = append(all[:0], api.Dead{N: 98})
}

// TestChanged: what was handed in is changed by its owner, or what was
// answered by its receiver, and the other one stays as it is.
func TestChanged(t *testing.T) {
	for what, ask := range map[string]func(l []api.Dead, m api.Mail) []api.Dead{
		"Put":  func(l []api.Dead, m api.Mail) []api.Dead { out, _ := Put(l, 9, m, api.Over, 9); return out },
		"Find": func(l []api.Dead, m api.Mail) []api.Dead { x, _ := Find(l, 1); return []api.Dead{x} },
		"Drop": func(l []api.Dead, m api.Mail) []api.Dead { out, _ := Drop(l, 2); return out },
	} {
		l, m := letters(1, 2, 3, 4, 5, 6), messages()[0]
		wanted := ask(letters(1, 2, 3, 4, 5, 6), messages()[0])
		got := ask(l, m)
		spoil(l)
		spoil([]api.Dead{{Mail: m}})
		same(t, what+": what was handed in is changed", got, wanted)

		l, m = letters(1, 2, 3, 4, 5, 6), messages()[0]
		spoil(ask(l, m))
		same(t, what+": the answer is changed", l, letters(1, 2, 3, 4, 5, 6))
		same(t, what+": the answer is changed", m, messages()[0])
	}
}

// given is all that the functions take.
type given struct {
	Letters []api.Dead
	Mail    api.Mail
}

// spare gives every list of a thing spare capacity with something in it.
func spare(v reflect.Value) {
	switch v.Kind() {
	case reflect.Struct:
		for i := range v.NumField() {
			spare(v.Field(i))
		}
	case reflect.Slice:
		for i := range v.Len() {
			spare(v.Index(i))
		}
		if n := v.Len(); n > 0 {
			v.Set(reflect.AppendSlice(v.Slice3(0, n, n), v.Slice(0, 1)).Slice(0, n))
		}
	}
}

// whole is a thing with what lies in its spare capacity.
func whole(v reflect.Value) {
	switch v.Kind() {
	case reflect.Struct:
		for i := range v.NumField() {
			whole(v.Field(i))
		}
	case reflect.Slice:
		v.Set(v.Slice(0, v.Cap()))
		for i := range v.Len() {
			whole(v.Index(i))
		}
	}
}

func spared(n int) reflect.Value {
	g := &given{letters(1, 2, 3, 1, 5)[:n:n], messages()[0]}
	spare(reflect.ValueOf(g).Elem())
	return reflect.ValueOf(g).Elem()
}

// TestUnchanged: what is handed in stays as it is, with its spare capacity.
func TestUnchanged(t *testing.T) {
	for n := range 6 {
		v, kept := spared(n), spared(n)
		g := v.Addr().Interface().(*given)
		for number := range int64(7) {
			for reason := range 7 {
				for most := range 8 {
					Put(g.Letters, number, g.Mail, reason, most)
				}
				Count(g.Letters, reason)
			}
			Find(g.Letters, number)
			Drop(g.Letters, number)
		}
		whole(v)
		whole(kept)
		same(t, "unchanged", v.Interface(), kept.Interface())
	}
}
