package fire

import (
	"reflect"
	"testing"
	"unsafe"

	"switchyard/api"
	"switchyard/item"
)

// span is where bytes lie, and whose they are.
type span struct {
	from, to uintptr
	path     string
}

// memory returns where the lists, with their spare capacity, and the texts of
// a thing lie.
func memory(v reflect.Value, path string) []span {
	var out []span
	switch v.Kind() {
	case reflect.Struct:
		for i := range v.NumField() {
			out = append(out, memory(v.Field(i), path+"."+v.Type().Field(i).Name)...)
		}
	case reflect.Slice:
		whole := v.Slice(0, v.Cap())
		if whole.Len() > 0 {
			out = append(out, span{v.Pointer(), v.Pointer() + uintptr(whole.Len())*v.Type().Elem().Size(), path})
		}
		for i := range whole.Len() {
			out = append(out, memory(whole.Index(i), path)...)
		}
	case reflect.String:
		if n := v.Len(); n > 0 {
			from := uintptr(unsafe.Pointer(unsafe.StringData(v.String())))
			out = append(out, span{from, from + uintptr(n), path})
		}
	}
	return out
}

func apart(t *testing.T, what string, a, b any) {
	t.Helper()
	for _, one := range memory(reflect.ValueOf(a), "") {
		for _, two := range memory(reflect.ValueOf(b), "") {
			if one.from < two.to && two.from < one.to {
				t.Errorf("%s: %q lies in %q", what, one.path, two.path)
			}
		}
	}
}

// within checks that no two parts of an answer lie in each other.
func within(t *testing.T, what string, x any) {
	t.Helper()
	all := memory(reflect.ValueOf(x), "")
	for i, one := range all {
		for _, two := range all[:i] {
			if one.from < two.to && two.from < one.to {
				t.Errorf("%s: %q lies in %q", what, one.path, two.path)
			}
		}
	}
}

// done is what Do answers, in one thing.
type done struct {
	Item  api.Item
	Sends []Send
}

// listed moves lists and texts about: from the message and from one attribute
// to several, and out on several channels.
const listed = `enum color { red, blue }
artifact a {
	attr k list; attr l list; attr r list; attr t text; attr u text; attr c color; attr e color; key k; state new start; state old;
	in i 0..9; out o 0..9; out p 0..9;
	move on: new -> old on i set l = msg.l set r = msg.l set t = msg.t set u = msg.t set c = msg.c set e = 'blue send o send p;
	move go: new -> new set l = r set u = t set c = e send p send o;
	move keep: new -> old send o;
}
channel c1: a.o -> a.i by l for 1..1 carry l, t, c;
channel c2: a.p -> a.i by l for 1..1 carry l, t, c;
channel c3: a.p -> a.i by push(l, 1) for 1..1 carry l, t, c;
channel c4: a.o -> a.i by k for 1..1 carry l, t, c;
`

// listedGame is an artifact of listed, and messages for it.
func listedGame(t *testing.T) (api.Def, api.Item, []api.Mail) {
	d := read(t, listed)
	x := made(t, d, "a", list(1), list(2, 2), list(3, 3, 3), text("tt"), text("uu"), sym("red"), sym("blue"))
	mail := func(channel string) api.Mail {
		return api.Mail{ID: 1, Channel: channel, Key: row(list(1, 4)), Fields: row(list(5, 6), text("msg"), sym("blue"))}
	}
	x.Box = []api.Mail{mail("c1"), mail("c2")}
	return d, x, []api.Mail{mail("c3"), mail("c4")}
}

// TestOwn: what is answered shares no memory with what was given, nor with
// another answer, nor any of its parts with another.
func TestOwn(t *testing.T) {
	d, x, mail := listedGame(t)
	for _, move := range []string{"on", "go", "keep"} {
		now := mail
		if move != "on" {
			now = nil
		}
		do := func() done {
			y, l := does(t, d, x, move, 7, now...)
			return done{y, l}
		}
		one, two := do(), do()
		apart(t, move, d, one)
		apart(t, move, x, one)
		apart(t, move, mail, one)
		apart(t, "two of "+move, one, two)
		within(t, move, one)
	}
	one, _ := First(d, x, 7, mail[0])
	two, _ := First(d, x, 7, mail[0])
	want(t, "First", one, "on")
	apart(t, "First", d, one)
	apart(t, "two of First", one, two)
}

// TestChanged: what was answered is changed, and what was given stays as it is.
func TestChanged(t *testing.T) {
	d, x, mail := listedGame(t)
	y, l := does(t, d, x, "on", 7, mail...)
	y.Attrs[0].List[0], y.Attrs[1].List[0], y.Counts[0] = 99, 99, 99
	y.Box[0].Key[0].List[0], y.Box[1].Fields[0], y.Box[1].Channel = 99, num(99), "99"
	l[0].Key[0].List[0], l[1].Fields[0].List[0] = 99, 99
	wantedDef, wanted, wantedMail := listedGame(t)
	same(t, "the choreography", d, wantedDef)
	same(t, "the artifact", x, wanted)
	same(t, "the messages", mail, wantedMail)
	want(t, "it fits", item.Check(d, x), api.OK)
}

// spare gives every list of a thing spare capacity with something in it.
func spare(v reflect.Value) {
	switch v.Kind() {
	case reflect.Struct:
		for i := range v.NumField() {
			spare(v.Field(i))
		}
	case reflect.Slice:
		for i := range v.Len() {
			spare(v.Index(i))
		}
		if n := v.Len(); n > 0 {
			v.Set(reflect.AppendSlice(v.Slice3(0, n, n), v.Slice(0, 1)).Slice(0, n))
		}
	}
}

// whole is a thing with what lies in its spare capacity.
func whole(v reflect.Value) {
	switch v.Kind() {
	case reflect.Struct:
		for i := range v.NumField() {
			whole(v.Field(i))
		}
	case reflect.Slice:
		v.Set(v.Slice(0, v.Cap()))
		for i := range v.Len() {
			whole(v.Index(i))
		}
	}
}

// given is all that the functions take.
type given struct {
	Def  api.Def
	Item api.Item
	Mail []api.Mail
}

func spared(t *testing.T) *given {
	g := new(given)
	g.Def, g.Item, g.Mail = listedGame(t)
	spare(reflect.ValueOf(g).Elem())
	return g
}

// TestUnchanged: what is given stays as it is, with its spare capacity, whether
// the move is possible or not.
func TestUnchanged(t *testing.T) {
	for _, move := range []string{"on", "go", "keep", "none"} {
		for _, now := range []int64{-1, 0, 7} {
			for n := range 3 {
				g, kept := spared(t), spared(t)
				Able(g.Def, g.Item, move, now, g.Mail[:n]...)
				Do(g.Def, g.Item, move, now, g.Mail[:n]...)
				First(g.Def, g.Item, now, g.Mail[0])
				whole(reflect.ValueOf(g).Elem())
				whole(reflect.ValueOf(kept).Elem())
				same(t, move, *g, *kept)
			}
		}
	}
}
