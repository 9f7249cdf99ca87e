package check

import (
	"reflect"
	"testing"
	"unsafe"

	"switchyard/api"
)

// full has two of everything that a choreography may have, and is valid.
const full = `enum color { red, blue }
enum size { big, small, blue }
artifact a {
	attr k int; attr l color; attr n int; attr c color; attr b bool; attr t text; attr s list; attr spare color; attr other size;
	key k, l;
	state one start; state two; state end final;
	in i 0..2; in j 1..3; out o 0..2; out p 0..2;
	move go: one -> two after 3 when n < 5 set n = n + 1 set c = 'red send o send p;
	move on: two -> one on i after 1 when msg.n > 0 && msg.c != 'red set n = msg.n set c = msg.c send o send p;
	move fin: two -> end on j when b set b = !b set t = "x" send o send p;
}
artifact z {
	attr k int; attr l color; attr n int; attr c color; attr b bool; attr t text; attr s list; attr spare color; attr other size;
	key k, l;
	state one start; state two; state end final;
	in i 0..2; in j 1..3; out o 0..2; out p 0..2;
	move go: one -> two after 3 when n < 5 set n = n + 1 set c = 'red send o send p;
	move on: two -> one on i after 1 when msg.n > 0 && msg.c != 'red set n = msg.n set c = msg.c send o send p;
	move fin: two -> end on j when b set b = !b set t = "x" send o send p;
}
channel d: a.o -> z.i by k, l for 0..3 carry n, c;
channel e: z.o -> a.i by k + 1, 'red for 1..1 spawn carry n, c;
channel f: a.p -> z.j by n, c for 1..2 carry n, c;
channel g: z.p -> z.j by n, spare for 0..1 spawn carry n, c;
channel h: z.o -> z.j by -n, 'blue for 2..2 carry n, c;
milestone m: a one -> two by n for 1..3 when b;
milestone q: z two -> end by other for 2..2 when n == 1 || other == 'big;
role r {
	sees a(n, c) in one, two where b;
	sees z(k, l) in end, one where n < 3;
	may a.go; may z; may z.go;
}
role s {
	sees z(n, c) in one, two where !b;
	sees a(k, l) in end, one where t == "x";
	may a; may z.go; may a.go;
}
`

// TestFull: what the other tests change is valid as it is.
func TestFull(t *testing.T) {
	want(t, "full", Check(read(t, full)), api.OK)
}

// strip takes the insides of expressions out of a thing: these may be shared.
func strip(v reflect.Value) {
	switch {
	case v.Type() == reflect.TypeFor[api.Expr]():
		v.SetZero()
	case v.Kind() == reflect.Struct:
		for i := range v.NumField() {
			strip(v.Field(i))
		}
	case v.Kind() == reflect.Slice:
		for i := range v.Len() {
			strip(v.Index(i))
		}
	}
}

// memory returns where the lists and texts of a thing lie, with their spare
// capacity.
func memory(v reflect.Value, out map[uintptr]string, path string) {
	switch v.Kind() {
	case reflect.Struct:
		for i := range v.NumField() {
			memory(v.Field(i), out, path+"."+v.Type().Field(i).Name)
		}
	case reflect.Slice:
		whole := v.Slice(0, v.Cap())
		for i := range whole.Len() {
			out[whole.Index(i).Addr().Pointer()] = path
			memory(whole.Index(i), out, path)
		}
	case reflect.String:
		if v.Len() > 0 {
			out[uintptr(unsafe.Pointer(unsafe.StringData(v.String())))] = path
		}
	}
}

// apart checks that two things lie apart, but for expressions.
func apart[T, U any](t *testing.T, what string, a T, b U) {
	t.Helper()
	first, second := map[uintptr]string{}, map[uintptr]string{}
	memory(reflect.ValueOf(&a).Elem(), first, "")
	strip(reflect.ValueOf(&b).Elem())
	memory(reflect.ValueOf(&b).Elem(), second, "")
	for at, path := range second {
		if other, shared := first[at]; shared {
			t.Errorf("%s: %s lies in %s", what, path, other)
		}
	}
}

// owns checks that what a look-up answers is nobody else's.
func owns[T any](t *testing.T, what string, d api.Def, look func() T) {
	t.Helper()
	apart(t, what, d, look())
	second, third := look(), look()
	apart(t, "two of "+what, second, third)
	same(t, "the choreography behind "+what, d, read(t, full))
}

// TestOwn: what is answered shares no memory with what was given, nor with
// another answer.
func TestOwn(t *testing.T) {
	d := read(t, full)
	for _, name := range []string{"a", "z"} {
		owns(t, "type", d, func() api.Type { one, _ := Type(d, name); return one })
		owns(t, "fields", d, func() []api.Attr { return Fields(d, name, "i") })
		one, _ := Type(d, name)
		for _, s := range []string{"go", "on", "fin"} {
			owns(t, "move", d, func() api.Move { m, _ := Move(d.Types[0], s); return m })
			m, _ := Move(one, s)
			apart(t, "move of a type", one, m)
		}
		s, _ := State(d.Types[0], "two")
		apart(t, "state", d, s)
	}
	for _, name := range []string{"d", "e", "f", "g", "h"} {
		owns(t, "channel", d, func() api.Channel { c, _ := Channel(d, name); return c })
	}
	for _, name := range []string{"m", "q"} {
		owns(t, "group", d, func() api.Group { g, _ := Group(d, name); return g })
	}
	for _, name := range []string{"r", "s"} {
		owns(t, "role", d, func() api.Role { r, _ := Role(d, name); return r })
	}
}

// TestUnchanged: what is given stays as it is, with its spare capacity.
func TestUnchanged(t *testing.T) {
	long := read(t, full)
	d := long
	d.Types, d.Channels, d.Roles = long.Types[:1], long.Channels[:0], long.Roles[:0]
	d.Types[0].Attrs = d.Types[0].Attrs[:7:8]
	d.Groups = long.Groups[:1]
	d.Types[0].Moves = d.Types[0].Moves[:1]
	d.Types[0].States = d.Types[0].States[:2]
	d.Types[0].Key = d.Types[0].Key[:1]
	want(t, "Check", Check(d), api.OK)
	want(t, "Acyclic", Acyclic(d), true)
	want(t, "Weight", Weight(d, "a", "i"), 1)
	for i := range d.Types[0].Attrs {
		want(t, "place", Place(d.Types[0].Attrs, d.Types[0].Attrs[i].Name), i)
	}
	d.Types[0].Attrs = d.Types[0].Attrs[:8]
	got := long
	got.Types[0].Moves, got.Types[0].States, got.Types[0].Key = got.Types[0].Moves[:3], got.Types[0].States[:3], got.Types[0].Key[:2]
	wanted := read(t, full)
	wanted.Types[0].Attrs = wanted.Types[0].Attrs[:8]
	same(t, "what was given", got, wanted)
}

// TestHostile: no call panics or goes on for ever, whatever it is given.
func TestHostile(t *testing.T) {
	endless := []api.Expr{{Op: api.OpNot}}
	endless[0].Args = endless
	wide := []api.Expr{{Op: api.OpAnd}, {Op: api.OpAnd}}
	wide[0].Args, wide[1].Args = wide, wide
	for _, e := range []api.Expr{endless[0], wide[0], {Op: -1}, {Op: api.OpAdd}, {Op: api.OpOr, Args: endless}} {
		d := read(t, full)
		d.Types[0].Moves[0].When = e
		d.Types[0].Moves[1].Sets[0].To = e
		d.Channels[0].By[0] = e
		d.Groups[0].When = e
		d.Roles[0].Sees[0].Where = e
		want(t, "valid", Check(d) == api.OK, false)
		want(t, "acyclic", Acyclic(d), false)
		want(t, "weight", Weight(d, "a", "i"), 0)
		one, found := Type(d, "a")
		want(t, "type", found && one.Moves[0].When.Op == e.Op, true)
		c, found := Channel(d, "d")
		want(t, "channel", found && c.By[0].Op == e.Op, true)
		_, found = Group(d, "m")
		want(t, "group", found, true)
		_, found = Role(d, "r")
		want(t, "role", found, true)
	}
}

// spots returns all names, numbers, flags and lists of a choreography, and
// those of its expressions.
func spots(v reflect.Value) []reflect.Value {
	var out []reflect.Value
	switch v.Kind() {
	case reflect.Struct:
		for i := range v.NumField() {
			out = append(out, spots(v.Field(i))...)
		}
		return out
	case reflect.Slice:
		for i := range v.Len() {
			out = append(out, spots(v.Index(i))...)
		}
	}
	return append(out, v)
}

// twist gives a spot another value that looks thrown.
func (d *dice) twist(v reflect.Value, names []string) {
	switch v.Kind() {
	case reflect.String:
		v.SetString(names[d.below(len(names))])
	case reflect.Bool:
		v.SetBool(!v.Bool())
	case reflect.Slice:
		switch n := v.Len(); {
		case n == 0 || d.below(3) == 0:
			v.SetZero()
		case d.below(2) == 0:
			v.Set(v.Slice(0, d.below(n)))
		default:
			v.Set(reflect.Append(v, v.Index(d.below(n))))
		}
	default:
		numbers := []int64{-1 << 63, -1, 0, 1, 2, 3, 4, 5, 6, 7, 12, 23, 31, 1000, 1001, 1 << 31, 1 << 52, 1<<63 - 1}
		v.SetInt(numbers[d.below(len(numbers))])
	}
}

// TestTwisted: choreographies with a few things changed by chance, some of
// which are valid still. Nothing panics, and what is answered agrees.
func TestTwisted(t *testing.T) {
	names := []string{"", "a", "z", "i", "j", "o", "p", "k", "l", "n", "c", "b", "t", "s", "one", "two", "end", "go", "on", "fin", "color", "size", "red", "blue", "m", "q", "r", "len", "msg", "none", "1", "\x00"}
	r := new(dice(8))
	valid, acyclic := 0, 0
	for i := range 2000 {
		d := read(t, full)
		if i%2 == 0 { // so that no way leads back to a
			d.Types[1].Moves[1].Sends = []string{"p"}
			d.Types[1].Moves[2].Sends = nil
		}
		for range 1 + r.below(3) {
			all := spots(reflect.ValueOf(&d).Elem())
			r.twist(all[r.below(len(all))], names)
		}
		bad := Check(d)
		want(t, "Check again", Check(d), bad)
		goes := Acyclic(d)
		want(t, "acyclic, but not valid", goes && bad != api.OK, false)
		for _, one := range d.Types {
			for _, p := range one.Ports {
				want(t, "a weight", Weight(d, one.Name, p.Name) > 0, goes && !p.Out)
				Fields(d, one.Name, p.Name)
			}
		}
		if bad == api.OK {
			valid++
		}
		if goes {
			acyclic++
		}
	}
	want(t, "valid ones, at least", max(valid, 200), valid)
	want(t, "acyclic ones, at least", max(acyclic, 80), acyclic)
	want(t, "ones that are not valid, at least", min(valid, 1800), valid)
}
