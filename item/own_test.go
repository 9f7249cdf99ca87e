package item

import (
	"reflect"
	"testing"
	"unsafe"

	"switchyard/api"
)

// span is where bytes lie, and whose they are.
type span struct {
	from, to uintptr
	path     string
}

// memory returns where the lists, with their spare capacity, and the texts of
// a thing lie.
func memory(v reflect.Value, path string) []span {
	var out []span
	switch v.Kind() {
	case reflect.Struct:
		for i := range v.NumField() {
			out = append(out, memory(v.Field(i), path+"."+v.Type().Field(i).Name)...)
		}
	case reflect.Slice:
		whole := v.Slice(0, v.Cap())
		if whole.Len() > 0 {
			out = append(out, span{v.Pointer(), v.Pointer() + uintptr(whole.Len())*v.Type().Elem().Size(), path})
		}
		for i := range whole.Len() {
			out = append(out, memory(whole.Index(i), path)...)
		}
	case reflect.String:
		if n := v.Len(); n > 0 {
			from := uintptr(unsafe.Pointer(unsafe.StringData(v.String())))
			out = append(out, span{from, from + uintptr(n), path})
		}
	}
	return out
}

func apart(t *testing.T, what string, a, b any) {
	t.Helper()
	for _, one := range memory(reflect.ValueOf(a), "") {
		for _, two := range memory(reflect.ValueOf(b), "") {
			if one.from < two.to && two.from < one.to {
				t.Errorf("%s: %q lies in %q", what, one.path, two.path)
			}
		}
	}
}

// within checks that no two parts of an answer lie in each other.
func within(t *testing.T, what string, x any) {
	t.Helper()
	all := memory(reflect.ValueOf(x), "")
	for i, one := range all {
		for _, two := range all[:i] {
			if one.from < two.to && two.from < one.to {
				t.Errorf("%s: %q lies in %q", what, one.path, two.path)
			}
		}
	}
}

// owns checks that an answer shares no memory with what was given, nor with
// another answer, nor any of its parts with another.
func owns[T any](t *testing.T, what string, answer func() T, given ...any) {
	t.Helper()
	one, two := answer(), answer()
	for _, x := range given {
		apart(t, what, x, one)
	}
	apart(t, "two of "+what, one, two)
	within(t, what, one)
}

// TestOwn: what is answered is nobody else's, also where what was given lies
// in itself.
func TestOwn(t *testing.T) {
	d := read(t, full)
	vals := valsOfA()
	owns(t, "New", func() api.Item { x, _ := New(d, "a", 1, 0, vals...); return x }, d, vals)
	key := row(num(9), sym("blue"))
	owns(t, "Spawn", func() api.Item { x, _ := Spawn(d, "a", 1, 0, key...); return x }, d, key)
	owns(t, "Zero", func() api.Value { return Zero(d, d.Types[0].Attrs[6]) }, d)
	lists := read(t, "enum e { x } artifact a { attr k list; attr l list; attr s e; attr u e; key k, l; state s start; in i 0..1; out o 0..1; } channel c: a.o -> a.i by l, k for 1..1 carry k, l;")
	long := row(list(1, 2, 3), list(1, 2, 3), sym("x"), sym("x"))
	long[1].List = long[0].List
	owns(t, "New with one list twice", func() api.Item { x, _ := New(lists, "a", 1, 0, long...); return x }, lists, long)
	owns(t, "Spawn with one list twice", func() api.Item { x, _ := Spawn(lists, "a", 1, 0, long[:2]...); return x }, lists, long)
	x, _ := New(lists, "a", 1, 0, long...)
	owns(t, "Key", func() []api.Value { return Key(lists, x) }, lists, x)
	x.Attrs[0].List = x.Attrs[1].List
	owns(t, "Key with one list twice", func() []api.Value { return Key(lists, x) }, lists, x)
	x.Box = []api.Mail{{Channel: "c", Key: long[:2], Fields: long[:2]}, {Channel: "c", Key: long[:2], Fields: long[:2]}}
	want(t, "it fits", Check(lists, x), api.OK)
	owns(t, "Twin with one list many times", func() api.Item { return Twin(x) }, lists, x)
	for _, x := range []api.Item{live(), done()} {
		owns(t, "Twin", func() api.Item { return Twin(x) }, x)
	}
}

// TestChanged: a Twin and its artifact are changed, each in each of its parts,
// and the other one stays as it is.
func TestChanged(t *testing.T) {
	changes := []func(x *api.Item){
		func(x *api.Item) { x.ID++ }, func(x *api.Item) { x.Type = "" }, func(x *api.Item) { x.State = "" }, func(x *api.Item) { x.Since++ },
		func(x *api.Item) { x.Attrs[0] = api.Value{} }, func(x *api.Item) { x.Attrs[5].List[0]++ }, func(x *api.Item) { x.Attrs[4].Text = "" }, func(x *api.Item) { x.Attrs = append(x.Attrs[:1], x.Attrs...) },
		func(x *api.Item) { x.Counts[0]++ }, func(x *api.Item) { x.Counts[3]++ }, func(x *api.Item) { x.Counts = append(x.Counts[:0], 9, 9) },
		func(x *api.Item) { x.Box[0].ID++ }, func(x *api.Item) { x.Box[1].Channel = "" }, func(x *api.Item) { x.Box[2] = api.Mail{} }, func(x *api.Item) { x.Box = append(x.Box[:1], x.Box[2:]...) },
		func(x *api.Item) { x.Box[0].Key[0].Num++ }, func(x *api.Item) { x.Box[1].Fields[0].List[0]++ }, func(x *api.Item) { x.Box[1].Fields[1].Text = "" }, func(x *api.Item) { x.Box[3].Key[1] = api.Value{} },
	}
	for i, change := range changes {
		x := live()
		y := Twin(x)
		change(&y)
		want(t, "a change", equal(reflect.ValueOf(y), reflect.ValueOf(live())), false)
		same(t, "an artifact whose Twin is changed", x, live())
		x = live()
		y = Twin(x)
		changes[i](&x)
		same(t, "a Twin whose artifact is changed", y, live())
	}
}

// spare gives every list of a thing spare capacity with something in it.
func spare(v reflect.Value) {
	switch v.Kind() {
	case reflect.Struct:
		for i := range v.NumField() {
			spare(v.Field(i))
		}
	case reflect.Slice:
		for i := range v.Len() {
			spare(v.Index(i))
		}
		if n := v.Len(); n > 0 {
			v.Set(reflect.AppendSlice(v.Slice3(0, n, n), v.Slice(0, 1)).Slice(0, n))
		}
	}
}

// whole is a thing with what lies in its spare capacity.
func whole(v reflect.Value) {
	switch v.Kind() {
	case reflect.Struct:
		for i := range v.NumField() {
			whole(v.Field(i))
		}
	case reflect.Slice:
		v.Set(v.Slice(0, v.Cap()))
		for i := range v.Len() {
			whole(v.Index(i))
		}
	}
}

// given is all that the functions take.
type given struct {
	Def  api.Def
	Item api.Item
	Vals []api.Value
	Key  []api.Value
}

func spared(t *testing.T, x api.Item) reflect.Value {
	g := &given{read(t, full), x, valsOfA(), row(num(9), sym("blue"))}
	spare(reflect.ValueOf(g).Elem())
	return reflect.ValueOf(g).Elem()
}

// TestUnchanged: what is given stays as it is, with its spare capacity.
func TestUnchanged(t *testing.T) {
	changes := append([]flaw{{"as it is", api.OK, func(x *api.Item) {}}}, flaws()...)
	for i, f := range changes {
		if i > 30 && i%10 != 0 {
			continue
		}
		x, kept := live(), live()
		f.do(&x)
		f.do(&kept)
		v, wanted := spared(t, x), spared(t, kept)
		g := v.Addr().Interface().(*given)
		New(g.Def, "a", 1, 0, g.Vals...)
		New(g.Def, "a", 1, 0, g.Item.Attrs...)
		Spawn(g.Def, "a", 1, 0, g.Key...)
		Check(g.Def, g.Item)
		Lies(g.Def, g.Item)
		Key(g.Def, g.Item)
		Live(g.Def, g.Item)
		Twin(g.Item)
		for _, m := range g.Item.Box {
			Mail(g.Def, m)
		}
		for i, a := range g.Def.Types[0].Attrs {
			Zero(g.Def, a)
			Fits(g.Def, a, g.Vals[i])
		}
		whole(v)
		whole(wanted)
		same(t, f.what, v.Interface(), wanted.Interface())
	}
}
