package fire

import (
	"reflect"
	"slices"
	"testing"

	"switchyard/api"
	"switchyard/check"
	"switchyard/eval"
	"switchyard/item"
)

// full has moves with and without messages, some of which are seldom possible.
const full = `enum color { red, blue }
artifact a {
	attr k int; attr n int; attr c color; attr t text; attr s list; attr m int;
	key k, c; state new start; state mid; state end final;
	in i 0..3; in j 1..3; out o 0..3; out p 1..2; out q 0..4;
	move go: new -> mid after 2 when n < 5 set n = n + m set m = n send p send o;
	move on: mid -> new on i when msg.n / n > -3 set n = msg.n set t = msg.t set s = push(s, msg.n) send q;
	move on2: mid -> mid on i after 1 set m = at(s, m) send q send o;
	move in: new -> new on j when len(msg.s) < 3 set s = msg.s set m = len(t);
	move fin: mid -> end on j when msg.s == s || n > 2 send p;
	move quit: mid -> end when n != m;
	move loop: new -> new when m != 0 && n / m >= 0 set n = n / m set s = [n, m, k];
}
artifact z {
	attr w text; attr n int; attr s list; attr c color; attr t text;
	key w; state s start; state u; state e final;
	in h 0..1000; out g 0..1000; out f 1..2;
	move a: s -> u on h set n = msg.k set c = msg.c send g;
	move b: u -> s on h when msg.k > n send f;
	move c: u -> e on h;
	move d: s -> s set n = n + 1 set t = w send g;
}
channel c1: a.o -> a.i by n, 'red for 0..3 carry n, t;
channel c2: a.p -> z.h by t for 1..1 spawn carry k, c;
channel c3: a.q -> z.h by "w" for 1..1 carry k, c;
channel c4: z.g -> a.j by n / len(s), c for 0..1 carry s, w;
channel c5: z.f -> a.i by at(s, 0), 'blue for 0..1 carry n, t;
channel c6: z.g -> a.i by n, c for 0..1 spawn carry n, t;
channel c7: a.q -> a.i by m * m, c for 0..2 carry n, t;
`

// dice are numbers that look thrown, and are the same in each run.
type dice uint64

func (d *dice) below(n int) int {
	*d = *d*6364136223846793005 + 1442695040888963407
	return int(uint64(*d) >> 33 % uint64(n))
}

func one[T any](d *dice, l ...T) T { return l[d.below(len(l))] }

// spots returns all names, numbers, flags and lists of a thing.
func spots(v reflect.Value) []reflect.Value {
	var out []reflect.Value
	switch v.Kind() {
	case reflect.Struct:
		for i := range v.NumField() {
			out = append(out, spots(v.Field(i))...)
		}
		return out
	case reflect.Slice:
		for i := range v.Len() {
			out = append(out, spots(v.Index(i))...)
		}
	}
	return append(out, v)
}

// twisted changes a few things by chance.
func (d *dice) twisted(x any, times int) {
	for range times {
		all := spots(reflect.ValueOf(x).Elem())
		switch v := all[d.below(len(all))]; v.Kind() {
		case reflect.String:
			v.SetString(one(d, "", "a", "z", "k", "n", "c", "t", "s", "m", "w", "new", "mid", "end", "i", "j", "o", "p", "q", "h", "g", "go", "on", "c1", "c2", "c4", "c7", "color", "red", "blue", "none"))
		case reflect.Bool:
			v.SetBool(!v.Bool())
		case reflect.Slice:
			switch n := v.Len(); {
			case n == 0 || d.below(3) == 0:
				v.SetZero()
			case d.below(2) == 0:
				v.Set(v.Slice(0, d.below(n)))
			default:
				v.Set(reflect.Append(v.Slice3(0, n, n), v.Index(d.below(n))))
			}
		default:
			v.SetInt(one[int64](d, -1<<63, -1, 0, 0, 1, 1, 2, 3, 4, 5, 6, 7, 1000, 1<<52, 1<<63-1))
		}
	}
}

// value is one that fits an attribute, unless the choreography has none.
func (d *dice) value(def api.Def, a api.Attr) api.Value {
	v := item.Zero(def, a)
	switch a.Kind {
	case api.Int:
		v.Num = one[int64](d, 0, 1, 1, 2, 3, 4, 5, -1, 1<<63-1, -1<<63)
	case api.Text:
		v.Text = one(d, "", "w", "xy")
	case api.Sym:
		v.Text = one(d, "red", "blue")
	case api.List:
		v.List = slices.Repeat([]int64{1, 0}, one(d, 0, 1, 1, 2, 8))
	}
	return v
}

func (d *dice) values(def api.Def, attrs []api.Attr) []api.Value {
	var out []api.Value
	for _, a := range attrs {
		out = append(out, d.value(def, a))
	}
	return out
}

// mail is a message of some channel.
func (d *dice) mail(def api.Def) api.Mail {
	if len(def.Channels) == 0 {
		return api.Mail{}
	}
	c := one(d, def.Channels...)
	t, _ := check.Type(def, c.To)
	m := api.Mail{ID: int64(d.below(9)), Channel: c.Name, Fields: d.values(def, check.Fields(def, c.To, c.ToPort))}
	for _, name := range t.Key {
		if i := check.Place(t.Attrs, name); i >= 0 {
			m.Key = append(m.Key, d.value(def, t.Attrs[i]))
		}
	}
	return m
}

// item is an artifact, which fits most often.
func (d *dice) item(def api.Def) api.Item {
	if len(def.Types) == 0 {
		return api.Item{}
	}
	t := one(d, def.Types...)
	x := api.Item{ID: 3, Type: t.Name, Since: one[int64](d, 0, 5, 6), Attrs: d.values(def, t.Attrs)}
	if len(t.States) > 0 {
		x.State = one(d, t.States...).Name
	}
	for _, p := range t.Ports {
		x.Counts = append(x.Counts, max(0, min(p.Max, d.below(4))))
	}
	if s, _ := check.State(t, x.State); !s.Final {
		for range d.below(3) {
			if m := d.mail(def); item.Mail(def, m) {
				if c, _ := check.Channel(def, m.Channel); c.To == x.Type {
					x.Box = append(x.Box, m)
				}
			}
		}
	}
	return x
}

// wanted is what Do should answer, by the words of the chapter, one after the
// other; and whether Able lets the move be made.
func wanted(d api.Def, x api.Item, move string, now int64, mail ...api.Mail) (y api.Item, l []Send, bad api.Errno, able bool) {
	defer func() {
		if why, stopped := recover().(api.Errno); stopped {
			y, l, bad = api.Item{}, nil, why
		}
	}()
	unless := func(bad api.Errno, holds bool) {
		if bad != api.OK && !holds {
			panic(bad)
		}
	}
	unless(api.ErrNoDef, check.Check(d) == api.OK)
	unless(item.Check(d, x), false)
	unless(api.ErrArg, now >= 0 && now <= 4503599627370496)
	t, _ := check.Type(d, x.Type)
	m, found := check.Move(t, move)
	unless(api.ErrName, found)
	unless(api.ErrState, m.From == x.State)
	v := eval.Env{Attrs: t.Attrs, Vals: x.Attrs}
	if len(mail) == 0 {
		unless(api.ErrState, m.On == "")
	} else {
		unless(api.ErrState, m.On != "")
		c, found := check.Channel(d, mail[0].Channel)
		arrives := found && c.To == t.Name
		unless(api.ErrState, !arrives || c.ToPort == m.On)
		unless(api.ErrForm, arrives && item.Mail(d, mail[0]))
		v.Names, v.Fields = check.Fields(d, t.Name, m.On), mail[0].Fields
	}
	unless(api.ErrState, now >= x.Since+m.After)
	holds, bad := eval.Holds(m.When, v)
	unless(bad, false)
	unless(api.ErrState, holds)
	y = item.Twin(x)
	for _, port := range append([]string{m.On}, m.Sends...) {
		if i := check.Port(t, port); i >= 0 {
			y.Counts[i]++
			unless(api.ErrCount, y.Counts[i] <= t.Ports[i].Max)
		}
	}
	to, _ := check.State(t, m.To)
	for i, p := range t.Ports {
		unless(api.ErrCount, !to.Final || y.Counts[i] >= p.Min)
	}
	able = true
	for _, s := range m.Sets {
		y.Attrs[check.Place(t.Attrs, s.Attr)], bad = eval.Of(s.To, v)
		unless(bad, false)
	}
	y.State, y.Since = m.To, now
	for _, port := range m.Sends {
		for _, c := range d.Channels {
			if c.From == t.Name && c.FromPort == port {
				s := Send{Channel: c.Name}
				for _, e := range c.By {
					k, bad := eval.Of(e, eval.Env{Attrs: t.Attrs, Vals: y.Attrs})
					unless(bad, false)
					s.Key = append(s.Key, k)
				}
				for _, name := range c.Carry {
					s.Fields = append(s.Fields, y.Attrs[check.Place(t.Attrs, name)])
				}
				l = append(l, s)
			}
		}
	}
	return y, l, api.OK, able
}

// wantedFirst is what First should answer, by its words and by Able.
func wantedFirst(d api.Def, x api.Item, now int64, mail api.Mail) (string, api.Errno) {
	if bad := item.Check(d, x); bad != api.OK {
		return "", bad
	}
	if now < 0 || now > 4503599627370496 {
		return "", api.ErrArg
	}
	c, _ := check.Channel(d, mail.Channel)
	if c.To != x.Type || !item.Mail(d, mail) {
		return "", api.ErrForm
	}
	t, _ := check.Type(d, x.Type)
	out := api.OK
	for _, m := range t.Moves {
		if m.On == c.ToPort && m.From == x.State {
			bad := Able(d, x, m.Name, now, mail)
			if bad == api.OK {
				return m.Name, api.OK
			}
			if out == api.OK {
				out = bad
			}
		}
	}
	if out == api.OK {
		out = api.ErrState
	}
	return "", out
}

// settled checks P15.4 of an artifact before and after a move.
func settled(t *testing.T, d api.Def, x, y api.Item) {
	t.Helper()
	same(t, "the Box", y.Box, x.Box)
	same(t, "the key", item.Key(d, y), item.Key(d, x))
	if !item.Live(d, y) {
		y.Box = nil
	}
	want(t, "it fits", item.Check(d, y), api.OK)
}

// TestRandom: moves of artifacts with messages, all of it by chance.
func TestRandom(t *testing.T) {
	r := new(dice(16))
	seen, first := map[api.Errno]int{}, map[api.Errno]int{}
	moves, late := map[string]int{}, 0
	for i := range 3500 {
		d := read(t, full)
		if i%8 == 0 {
			r.twisted(&d, 1+r.below(2))
		}
		x := r.item(d)
		if r.below(8) == 0 {
			r.twisted(&x, 1)
		}
		var mail []api.Mail
		for range r.below(3) {
			mail = append(mail, r.mail(d))
		}
		if len(mail) > 0 && r.below(4) == 0 {
			r.twisted(&mail[0], 1)
		}
		now := one[int64](r, 5, 6, 7, 7, 8, 9, -1, 1<<52, 1<<52+1)
		if len(mail) > 0 {
			name, bad := First(d, x, now, mail[0])
			wantedName, wantedBad := wantedFirst(d, x, now, mail[0])
			want(t, "First", name, wantedName)
			want(t, "First", bad, wantedBad)
			first[bad]++
		}
		typ, _ := check.Type(d, x.Type)
		for _, m := range append(typ.Moves, api.Move{Name: "none"}) {
			y, l, bad, able := wanted(d, x, m.Name, now, mail...)
			if able {
				want(t, "Able of "+m.Name, Able(d, x, m.Name, now, mail...), api.OK)
			} else {
				want(t, "Able of "+m.Name, Able(d, x, m.Name, now, mail...), bad)
			}
			gotItem, gotSends, gotBad := Do(d, x, m.Name, now, mail...)
			want(t, "Do of "+m.Name, gotBad, bad)
			same(t, "Do of "+m.Name, gotItem, y)
			same(t, "Do of "+m.Name, gotSends, l)
			seen[bad]++
			if bad == api.OK {
				settled(t, d, x, y)
				moves[m.Name]++
			} else if able {
				late++
			}
		}
	}
	for _, bad := range []api.Errno{api.OK, api.ErrNoDef, api.ErrName, api.ErrKind, api.ErrArg, api.ErrState, api.ErrForm, api.ErrOver, api.ErrZero, api.ErrPlace, api.ErrCount} {
		want(t, "many with "+bad.Error(), seen[bad] > 10, true)
	}
	for _, bad := range []api.Errno{api.OK, api.ErrNoDef, api.ErrArg, api.ErrState, api.ErrForm, api.ErrZero, api.ErrCount} {
		want(t, "many of First with "+bad.Error(), first[bad] > 5, true)
	}
	want(t, "many moves", len(moves) >= 11, true)
	want(t, "many that fail late", late > 50, true)
}

// TestHostile: choreographies and artifacts with many things changed, and trees
// without end. Nothing panics.
func TestHostile(t *testing.T) {
	endless := []api.Expr{{Op: api.OpNot}}
	endless[0].Args = endless
	r := new(dice(17))
	for i := range 500 {
		d := read(t, full)
		x, m := r.item(d), r.mail(d)
		switch i % 5 {
		case 0:
			d.Types[0].Moves[0].When = endless[0]
		case 1:
			d.Types[0].Moves[0].Sets[0].To = endless[0]
		case 2:
			d.Channels[0].By = endless
		default:
			r.twisted(&d, r.below(6))
		}
		r.twisted(&x, r.below(6))
		r.twisted(&m, r.below(3))
		for _, move := range []string{"go", "on", "in", "fin", "a", "b", "d", "", "none"} {
			bad := Able(d, x, move, 7, m)
			want(t, "not valid", bad == api.ErrNoDef, check.Check(d) != api.OK)
			Do(d, x, move, 7, m)
			Do(d, x, move, 7)
		}
		First(d, x, 7, m)
	}
	want(t, "nothing at all", Able(api.Def{}, api.Item{}, "", 0), api.ErrName)
	want(t, "no choreography", Able(api.Def{Types: []api.Type{{}}}, api.Item{}, "", -1), api.ErrNoDef)
}
