package fire

import (
	"reflect"
	"slices"
	"strings"
	"testing"

	"switchyard/api"
	"switchyard/check"
	"switchyard/defn"
	"switchyard/item"
)

// example is that of layer 11's chapter, without its rights.
const example = `enum color { red, blue }
artifact order {
	attr id int; attr c color; key id; state new start; state done final; in paid 0..1; out ask 1..2;
	move go: new -> done on paid after 3 when id > 0 set c = 'red send ask;
}
channel a: order.ask -> order.paid by id + 1 for 1..1 spawn carry id, c;
milestone m: order new -> done by c for 2..3 when id != 4;
role r { sees order(id, c) in new where id > 1; }
`

func want[T comparable](t *testing.T, what string, got, wanted T) {
	t.Helper()
	if got != wanted {
		t.Errorf("%s: got %#v, want %#v", what, got, wanted)
	}
}

// same checks that two things are equal. A nil slice is an empty one.
func same(t *testing.T, what string, got, wanted any) {
	t.Helper()
	if !equal(reflect.ValueOf(got), reflect.ValueOf(wanted)) {
		t.Errorf("%s:\n got %+v\nwant %+v", what, got, wanted)
	}
}

func equal(a, b reflect.Value) bool {
	if a.Type() != b.Type() {
		return false
	}
	switch a.Kind() {
	case reflect.Struct:
		for i := range a.NumField() {
			if !equal(a.Field(i), b.Field(i)) {
				return false
			}
		}
		return true
	case reflect.Slice:
		if a.Len() != b.Len() {
			return false
		}
		for i := range a.Len() {
			if !equal(a.Index(i), b.Index(i)) {
				return false
			}
		}
		return true
	}
	return a.Equal(b)
}

// read is the choreography of a source, which has to be valid.
func read(t *testing.T, s string) api.Def {
	t.Helper()
	d, at, bad := defn.Parse(s)
	if bad != api.OK || check.Check(d) != api.OK {
		t.Fatalf("%s: %v at %d, %v", s, bad, at, check.Check(d))
	}
	return d
}

func num(n int64) api.Value          { return api.Value{Kind: api.Int, Num: n} }
func flag(n int64) api.Value         { return api.Value{Kind: api.Bool, Num: n} }
func text(s string) api.Value        { return api.Value{Kind: api.Text, Text: s} }
func sym(s string) api.Value         { return api.Value{Kind: api.Sym, Text: s} }
func list(l ...int64) api.Value      { return api.Value{Kind: api.List, List: l} }
func row(l ...api.Value) []api.Value { return l }

// made is a new artifact of a type, at the time 0.
func made(t *testing.T, d api.Def, typ string, vals ...api.Value) api.Item {
	t.Helper()
	x, bad := item.New(d, typ, 5, 0, vals...)
	if bad != api.OK {
		t.Fatalf("%s: %v", typ, bad)
	}
	return x
}

// does is what Do answers to a move that has to be possible.
func does(t *testing.T, d api.Def, x api.Item, move string, now int64, mail ...api.Mail) (api.Item, []Send) {
	t.Helper()
	want(t, "Able: "+move, Able(d, x, move, now, mail...), api.OK)
	y, l, bad := Do(d, x, move, now, mail...)
	want(t, "Do: "+move, bad, api.OK)
	return y, l
}

// fails checks that neither Able nor Do lets a move be made.
func fails(t *testing.T, what string, d api.Def, x api.Item, move string, now int64, wanted api.Errno, mail ...api.Mail) {
	t.Helper()
	want(t, what, Able(d, x, move, now, mail...), wanted)
	doFails(t, what, d, x, move, now, wanted, mail...)
}

// doFails checks that Do answers an error, and nothing beside it.
func doFails(t *testing.T, what string, d api.Def, x api.Item, move string, now int64, wanted api.Errno, mail ...api.Mail) {
	t.Helper()
	y, l, bad := Do(d, x, move, now, mail...)
	want(t, what+" (Do)", bad, wanted)
	same(t, what+" (Do)", y, api.Item{})
	want(t, what+" (Do)", len(l), 0)
}

// firstFails checks that First answers an error, and no name.
func firstFails(t *testing.T, what string, d api.Def, x api.Item, now int64, wanted api.Errno, m api.Mail) {
	t.Helper()
	name, bad := First(d, x, now, m)
	want(t, what+" (First)", bad, wanted)
	want(t, what+" (First)", name, "")
}

func TestExample(t *testing.T) {
	d := read(t, example)
	x := made(t, d, "order", num(1), sym("blue"))
	m := api.Mail{ID: 3, Channel: "a", Key: row(num(1)), Fields: row(num(0), sym("red"))}
	fails(t, "without a message", d, x, "go", 3, api.ErrState)
	fails(t, "too early", d, x, "go", 2, api.ErrState, m)
	firstFails(t, "too early", d, x, 2, api.ErrState, m)
	y, l := does(t, d, x, "go", 3, m)
	same(t, "go", y, api.Item{ID: 5, Type: "order", State: "done", Since: 3, Attrs: row(num(1), sym("red")), Counts: []int{1, 1}})
	same(t, "go", l, []Send{{"a", row(num(2)), row(num(1), sym("red"))}})
	name, bad := First(d, x, 3, m)
	want(t, "First", name, "go")
	want(t, "First", bad, api.OK)
	x.Attrs[0] = num(0)
	fails(t, "an id of 0", d, x, "go", 3, api.ErrState, m)
}

// ranked has one move that may fail in each way.
const ranked = `artifact a {
	attr k int; attr n int; attr by int; key k; state new start; state mid; state end final;
	in i 0..2; in j 0..5; out o 0..2; out p 1..2; out q 1..3; out r 0..1;
	move m: new -> end on i after 3 when n / by == 1 && msg.n > 0 send o send p;
	move f: new -> mid after 3 when n / by == 1 send r;
	move g: mid -> mid on i;
	move h: mid -> new on j;
}
artifact z { attr k int; attr n int; key k; state s start; in h 0..1; out g 0..1; }
channel ci: z.g -> a.i by k for 1..1 carry n;
channel cj: z.g -> a.j by k for 1..1 carry k;
channel ck: a.o -> a.i by k for 1..1 carry n;
channel cz: a.o -> z.h by k for 1..1 carry n;
`

// call is what a move is made with.
type call struct {
	d    api.Def
	x    api.Item
	move string
	now  int64
	mail []api.Mail
}

func rankedCall(t *testing.T) *call {
	return &call{
		d:    read(t, ranked),
		x:    api.Item{ID: 1, Type: "a", State: "new", Since: 10, Attrs: row(num(1), num(7), num(7)), Counts: []int{1, 0, 1, 0, 1, 0}},
		move: "m", now: 13,
		mail: []api.Mail{{ID: 2, Channel: "ci", Key: row(num(1)), Fields: row(num(4))}},
	}
}

// hurdle is something that keeps the move m from being made: which error it
// is, what of the call it changes, and how.
type hurdle struct {
	what  string
	bad   api.Errno
	part  string
	first api.Errno // what First answers to it
	do    func(c *call)
}

// hurdles are in the order of the chapter.
func hurdles() []hurdle {
	early := func(c *call) { c.now = 12 }
	return []hurdle{
		{"not valid", api.ErrNoDef, "d", api.ErrNoDef, func(c *call) { c.d.Channels[0].Low = 2 }},
		{"not valid elsewhere", api.ErrNoDef, "d", api.ErrNoDef, func(c *call) { c.d.Types[1].Key = nil }},
		{"not valid as text", api.ErrNoDef, "d", api.ErrNoDef, func(c *call) { c.d.Types[0].Moves[0].When = api.Expr{Op: -1} }},
		{"no type", api.ErrName, "type", api.ErrName, func(c *call) { c.x.Type = "none" }},
		{"no state", api.ErrState, "state", api.ErrState, func(c *call) { c.x.State = "none" }},
		{"since ever", api.ErrState, "now", api.ErrState, func(c *call) { c.x.Since = -1 }},
		{"too few values", api.ErrKind, "attrs", api.ErrKind, func(c *call) { c.x.Attrs = c.x.Attrs[:2] }},
		{"another kind", api.ErrKind, "attrs", api.ErrKind, func(c *call) { c.x.Attrs[1] = text("7") }},
		{"beyond Max", api.ErrCount, "counts", api.ErrCount, func(c *call) { c.x.Counts[1] = 6 }},
		{"a wrong Box", api.ErrForm, "box", api.ErrForm, func(c *call) { c.x.Box = []api.Mail{{}} }},
		{"ahead of all times", api.ErrArg, "now", api.ErrArg, func(c *call) { c.now = -1 }},
		{"behind all times", api.ErrArg, "now", api.ErrArg, func(c *call) { c.now = api.MaxTime + 1 }},
		{"no move", api.ErrName, "move", api.OK, func(c *call) { c.move = "none" }},
		{"no move at all", api.ErrName, "move", api.OK, func(c *call) { c.move = "" }},
		{"another From", api.ErrState, "state", api.OK, func(c *call) { c.x.State = "mid" }},
		{"no message", api.ErrState, "mail", api.OK, func(c *call) { c.mail = nil }},
		{"another port", api.ErrState, "mail", api.ErrState, func(c *call) { c.mail[0].Channel = "cj" }},
		{"a channel to another type", api.ErrForm, "mail", api.ErrForm, func(c *call) { c.mail[0].Channel = "cz" }},
		{"no channel", api.ErrForm, "mail", api.ErrForm, func(c *call) { c.mail[0].Channel = "none" }},
		{"nothing in the message", api.ErrForm, "mail", api.ErrForm, func(c *call) { c.mail[0] = api.Mail{} }},
		{"no key", api.ErrForm, "mail", api.ErrForm, func(c *call) { c.mail[0].Key = nil }},
		{"a key too long", api.ErrForm, "mail", api.ErrForm, func(c *call) { c.mail[0].Key = row(num(1), num(1)) }},
		{"a key of another kind", api.ErrForm, "mail", api.ErrForm, func(c *call) { c.mail[0].Key[0] = text("1") }},
		{"no fields", api.ErrForm, "mail", api.ErrForm, func(c *call) { c.mail[0].Fields = nil }},
		{"too many fields", api.ErrForm, "mail", api.ErrForm, func(c *call) { c.mail[0].Fields = row(num(1), num(1)) }},
		{"a field that is None", api.ErrForm, "mail", api.ErrForm, func(c *call) { c.mail[0].Fields[0] = api.Value{} }},
		{"too early", api.ErrState, "now", api.ErrState, early},
		{"ahead of Since", api.ErrState, "now", api.ErrState, func(c *call) { c.now = 9 }},
		{"a When that fails", api.ErrZero, "attrs", api.ErrZero, func(c *call) { c.x.Attrs[2].Num = 0 }},
		{"a When that is false", api.ErrState, "attrs", api.ErrState, func(c *call) { c.x.Attrs[2].Num = 2 }},
		{"a When that is false by its message", api.ErrState, "mail", api.ErrState, func(c *call) { c.mail[0].Fields[0].Num = 0 }},
		{"On at Max", api.ErrCount, "counts", api.ErrCount, func(c *call) { c.x.Counts[0] = 2 }},
		{"the first of Sends at Max", api.ErrCount, "counts", api.ErrCount, func(c *call) { c.x.Counts[2] = 2 }},
		{"the last of Sends at Max", api.ErrCount, "counts", api.ErrCount, func(c *call) { c.x.Counts[3] = 2 }},
		{"final below Min", api.ErrCount, "counts", api.ErrCount, func(c *call) { c.x.Counts[4] = 0 }},
	}
}

// TestAbleOrder: P15.1, each error alone, and each two of them together, of
// which the first one counts; and what First says of them.
func TestAbleOrder(t *testing.T) {
	c := rankedCall(t)
	does(t, c.d, c.x, c.move, c.now, c.mail...)
	all := hurdles()
	for i, one := range all {
		for j, two := range all[:i+1] {
			if i != j && one.part == two.part {
				continue
			}
			c := rankedCall(t)
			one.do(c)
			if i != j {
				two.do(c)
			}
			fails(t, two.what+", "+one.what, c.d, c.x, c.move, c.now, two.bad, c.mail...)
			if len(c.mail) > 0 {
				firstOf(t, c, two, one)
			}
		}
	}
}

// firstOf checks what First says where one error of Able goes ahead of
// another: a message that may not be in the Box goes ahead of all that is said
// of moves.
func firstOf(t *testing.T, c *call, ahead, behind hurdle) {
	t.Helper()
	what := ahead.what + ", " + behind.what
	of := []hurdle{ahead, behind}
	whole := slices.IndexFunc(of, func(h hurdle) bool { return slices.Contains(hurdlesAhead(), h.what) })
	mail := slices.IndexFunc(of, func(h hurdle) bool { return h.part == "mail" && h.first == api.ErrForm })
	from := slices.IndexFunc(of, func(h hurdle) bool { return h.what == "another From" })
	other := slices.IndexFunc(of, func(h hurdle) bool { return h.first != api.OK })
	switch {
	case whole >= 0:
		firstFails(t, what, c.d, c.x, c.now, of[whole].first, c.mail[0])
	case mail >= 0:
		firstFails(t, what, c.d, c.x, c.now, api.ErrForm, c.mail[0])
	case from >= 0: // there the moves g and h go by the message
		name, bad := First(c.d, c.x, c.now, c.mail[0])
		want(t, what+" (First)", bad, Able(c.d, c.x, map[string]string{"ci": "g", "cj": "h"}[c.mail[0].Channel], c.now, c.mail...))
		want(t, what+" (First)", name != "", bad == api.OK)
	case other >= 0:
		firstFails(t, what, c.d, c.x, c.now, of[other].first, c.mail[0])
	default: // the name of the move alone is wrong
		name, bad := First(c.d, c.x, c.now, c.mail[0])
		want(t, what+" (First)", name, "m")
		want(t, what+" (First)", bad, api.OK)
	}
}

// hurdlesAhead are those that are no matter of moves and messages.
func hurdlesAhead() []string {
	var out []string
	for _, h := range hurdles() {
		if h.what == "no move" {
			break
		}
		out = append(out, h.what)
	}
	return out
}

// TestNoMessage: P15.1, a move without On takes no message, whatever is in it.
func TestNoMessage(t *testing.T) {
	c := rankedCall(t)
	y, l := does(t, c.d, c.x, "f", 13)
	same(t, "f", y, api.Item{ID: 1, Type: "a", State: "mid", Since: 13, Attrs: c.x.Attrs, Counts: []int{1, 0, 1, 0, 1, 1}})
	want(t, "f sends where no channel is", len(l), 0)
	does(t, c.d, c.x, "f", 13, []api.Mail{}...)
	for _, h := range hurdles() {
		c := rankedCall(t)
		h.do(c)
		if h.part == "mail" && len(c.mail) > 0 {
			fails(t, "f with a message, "+h.what, c.d, c.x, "f", 13, api.ErrState, c.mail...)
			c.x.Attrs[2].Num = 0
			fails(t, "f with a message, that fails, "+h.what, c.d, c.x, "f", 13, api.ErrState, c.mail...)
		}
	}
	fails(t, "f with a message", c.d, c.x, "f", 13, api.ErrState, c.mail...)
	fails(t, "f with two messages", c.d, c.x, "f", 13, api.ErrState, c.mail[0], c.mail[0])
	c.x.Counts[5] = 1
	fails(t, "f at Max", c.d, c.x, "f", 13, api.ErrCount)
	c.x.Attrs[2].Num = 0
	fails(t, "f that fails", c.d, c.x, "f", 13, api.ErrZero)
	fails(t, "f too early", c.d, c.x, "f", 12, api.ErrState)
}

// TestMessages: of more than one message the first one counts.
func TestMessages(t *testing.T) {
	c := rankedCall(t)
	good := c.mail[0]
	y, l := does(t, c.d, c.x, "m", 13, good)
	for _, h := range hurdles() {
		c := rankedCall(t)
		h.do(c)
		if h.part != "mail" || len(c.mail) == 0 {
			continue
		}
		y2, l2 := does(t, c.d, c.x, "m", 13, good, c.mail[0], c.mail[0])
		same(t, "then "+h.what, y2, y)
		same(t, "then "+h.what, l2, l)
		fails(t, "first "+h.what, c.d, c.x, "m", 13, h.bad, c.mail[0], good, good)
	}
	many := append([]api.Mail{good}, slices.Repeat([]api.Mail{{Channel: strings.Repeat("x", 99)}}, 9999)...)
	y2, _ := does(t, c.d, c.x, "m", 13, many...)
	same(t, "many", y2, y)
}

// TestAfter: P15.1, just before After and at it, at the edges of time.
func TestAfter(t *testing.T) {
	for _, after := range []int64{0, 1, 3, 1000, api.MaxTime - 1, api.MaxTime} {
		d := read(t, "artifact a { attr k int; key k; state s start; move m: s -> s; }")
		d.Types[0].Moves[0].After = after
		for _, since := range []int64{0, 1, 7, api.MaxTime - after, api.MaxTime - after + 1, api.MaxTime - 1, api.MaxTime} {
			if since < 0 || since > api.MaxTime {
				continue
			}
			x := made(t, d, "a", num(1))
			x.Since = since
			for _, now := range []int64{0, since - 1, since, since + 1, since + after - 1, since + after, since + after + 1, api.MaxTime} {
				switch {
				case now < 0 || now > api.MaxTime:
					fails(t, "no time", d, x, "m", now, api.ErrArg)
				case now < since+after:
					fails(t, "early", d, x, "m", now, api.ErrState)
				default:
					y, _ := does(t, d, x, "m", now)
					want(t, "Since", y.Since, now)
				}
			}
		}
	}
	c := rankedCall(t)
	for _, now := range []int64{-1 << 63, -1, api.MaxTime + 1, 1<<63 - 1} {
		fails(t, "no time", c.d, c.x, "m", now, api.ErrArg, c.mail...)
		firstFails(t, "no time", c.d, c.x, now, api.ErrArg, c.mail[0])
	}
}

// TestCounts: P15.1, a counter may reach Max, and has to reach Min where the
// move itself may bring it there.
func TestCounts(t *testing.T) {
	d := read(t, `artifact a { attr k int; key k; state s start; state e final; in i 1..2; in j 0..2; out o 2..3; out p 0..1000; out q 1..1;
		move on: s -> s on i send p send o; move end: s -> e on i send o; move quit: s -> e; move send: s -> e send q send o; }
		channel c: a.o -> a.i by k for 1..1;`)
	m := api.Mail{Channel: "c", Key: row(num(1))}
	for _, c := range []struct {
		move   string
		counts []int
		bad    api.Errno
		after  []int
	}{
		{"on", []int{0, 0, 0, 0, 0}, api.OK, []int{1, 0, 1, 1, 0}}, {"on", []int{1, 2, 2, 999, 1}, api.OK, []int{2, 2, 3, 1000, 1}},
		{"on", []int{2, 0, 0, 0, 0}, api.ErrCount, nil}, {"on", []int{0, 0, 3, 0, 0}, api.ErrCount, nil}, {"on", []int{0, 0, 0, 1000, 0}, api.ErrCount, nil}, {"on", []int{2, 2, 3, 1000, 1}, api.ErrCount, nil},
		{"end", []int{0, 0, 1, 0, 1}, api.OK, []int{1, 0, 2, 0, 1}}, {"end", []int{1, 2, 2, 1000, 1}, api.OK, []int{2, 2, 3, 1000, 1}},
		{"end", []int{0, 0, 0, 0, 1}, api.ErrCount, nil}, {"end", []int{0, 0, 1, 0, 0}, api.ErrCount, nil}, {"end", []int{2, 0, 1, 0, 1}, api.ErrCount, nil}, {"end", []int{1, 0, 3, 0, 1}, api.ErrCount, nil},
		{"quit", []int{1, 0, 2, 0, 1}, api.OK, []int{1, 0, 2, 0, 1}}, {"quit", []int{0, 0, 2, 0, 1}, api.ErrCount, nil}, {"quit", []int{1, 0, 1, 0, 1}, api.ErrCount, nil}, {"quit", []int{1, 0, 2, 0, 0}, api.ErrCount, nil},
		{"send", []int{1, 0, 1, 0, 0}, api.OK, []int{1, 0, 2, 0, 1}}, {"send", []int{1, 0, 1, 0, 1}, api.ErrCount, nil}, {"send", []int{0, 0, 1, 0, 0}, api.ErrCount, nil}, {"send", []int{1, 0, 0, 0, 0}, api.ErrCount, nil},
	} {
		x := made(t, d, "a", num(1))
		x.Counts = c.counts
		var mail []api.Mail
		if c.move == "on" || c.move == "end" {
			mail = append(mail, m)
		}
		if c.bad != api.OK {
			fails(t, c.move, d, x, c.move, 0, c.bad, mail...)
			continue
		}
		y, _ := does(t, d, x, c.move, 0, mail...)
		same(t, c.move, y.Counts, c.after)
	}
}
