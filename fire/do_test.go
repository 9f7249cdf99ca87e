package fire

import (
	"math"
	"strings"
	"testing"

	"switchyard/api"
	"switchyard/item"
)

// TestWhen: P15.1, a When that fails in each way in which it may.
func TestWhen(t *testing.T) {
	d := read(t, `artifact a { attr k int; attr n int; attr s list; attr t text; key k; state s start; in i 0..9; out o 0..9;
		move over: s -> s when n + 1 > 0;
		move under: s -> s when -n > 0 || true;
		move zero: s -> s when 1 / n > -9;
		move rest: s -> s when 7 % n < 9;
		move place: s -> s when at(s, n) < 9;
		move full: s -> s when len(push(s, n)) > 0;
		move both: s -> s when at(s, 99) == 1 / n;
		move part: s -> s when n == 0 || 1 / n > -9;
		move mail: s -> s on i when 6 / msg.n == 3;
		move text: s -> s on i when msg.t == t && at(msg.s, n) == msg.k; }
		channel c: a.o -> a.i by k for 1..1 carry n, t, s, k;`)
	long := list(make([]int64, 16)...)
	for _, c := range []struct {
		move string
		n    int64
		s    api.Value
		bad  api.Errno
	}{
		{"over", 1, list(), api.OK}, {"over", math.MaxInt64, list(), api.ErrOver}, {"over", math.MaxInt64 - 1, list(), api.OK}, {"over", -1, list(), api.ErrState},
		{"under", math.MinInt64, list(), api.ErrOver}, {"under", math.MinInt64 + 1, list(), api.OK},
		{"zero", 0, list(), api.ErrZero}, {"zero", 2, list(), api.OK}, {"rest", 0, list(), api.ErrZero}, {"rest", -3, list(), api.OK},
		{"place", 0, list(), api.ErrPlace}, {"place", 0, list(1), api.OK}, {"place", -1, list(1), api.ErrPlace}, {"place", 16, long, api.ErrPlace}, {"place", 15, long, api.OK}, {"place", 0, list(9), api.ErrState},
		{"full", 0, long, api.ErrPlace}, {"full", 0, list(make([]int64, 15)...), api.OK},
		{"both", 0, list(), api.ErrPlace}, {"both", 0, long, api.ErrPlace}, {"part", 0, list(), api.OK}, {"part", 5, list(), api.OK},
	} {
		x := made(t, d, "a", num(1), num(c.n), c.s, text(""))
		want(t, c.move, Able(d, x, c.move, 0), c.bad)
		if c.bad != api.OK {
			fails(t, c.move, d, x, c.move, 0, c.bad)
		}
	}
	for _, c := range []struct {
		move   string
		fields []api.Value
		bad    api.Errno
	}{
		{"mail", row(num(2), text(""), list(), num(0)), api.OK}, {"mail", row(num(0), text(""), list(), num(2)), api.ErrZero}, {"mail", row(num(3), text(""), list(), num(2)), api.ErrState},
		{"text", row(num(1), text("x"), list(4, 5), num(5)), api.OK}, {"text", row(num(1), text("x"), list(5, 4), num(5)), api.ErrState},
		{"text", row(num(1), text("y"), list(4), num(5)), api.ErrState}, {"text", row(num(1), text("x"), list(4), num(5)), api.ErrPlace},
	} {
		x := made(t, d, "a", num(1), num(1), list(), text("x"))
		m := api.Mail{Channel: "c", Key: row(num(77)), Fields: c.fields}
		want(t, c.move, Able(d, x, c.move, 0, m), c.bad)
		if c.bad != api.OK {
			fails(t, c.move, d, x, c.move, 0, c.bad, m)
		}
	}
}

// TestSets: P15.2, all Sets see the values before the move.
func TestSets(t *testing.T) {
	d := read(t, `enum color { red, blue }
		artifact a { attr k int; attr n int; attr m int; attr c color; attr e color; attr b bool; attr t text; attr s list; key k; state s start; state u; in i 0..9; out o 0..9;
		move swap: s -> u set n = m set m = n;
		move turn: s -> u set e = c set c = e set m = n + m set n = k;
		move all: s -> s set s = push(s, len(s)) set t = "new" set b = !b set e = 'blue set n = at(s, 0);
		move mail: s -> u on i set n = msg.m set m = n set c = msg.c set s = msg.s;
		move same: s -> s set n = n; }
		channel c: a.o -> a.i by k for 1..1 carry m, c, s;`)
	start := func() api.Item {
		return made(t, d, "a", num(1), num(2), num(3), sym("red"), sym("blue"), flag(1), text("old"), list(8))
	}
	for _, c := range []struct {
		move, state string
		attrs       []api.Value
		mail        []api.Mail
	}{
		{"swap", "u", row(num(1), num(3), num(2), sym("red"), sym("blue"), flag(1), text("old"), list(8)), nil},
		{"turn", "u", row(num(1), num(1), num(5), sym("blue"), sym("red"), flag(1), text("old"), list(8)), nil},
		{"all", "s", row(num(1), num(8), num(3), sym("red"), sym("blue"), flag(0), text("new"), list(8, 1)), nil},
		{"mail", "u", row(num(1), num(30), num(2), sym("blue"), sym("blue"), flag(1), text("old"), list(7, 7)), []api.Mail{{Channel: "c", Key: row(num(5)), Fields: row(num(30), sym("blue"), list(7, 7))}}},
		{"same", "s", start().Attrs, nil},
	} {
		x := start()
		x.Box = []api.Mail{{ID: 4, Channel: "c", Key: row(num(1)), Fields: row(num(1), sym("red"), list(1))}}
		y, l := does(t, d, x, c.move, 9, c.mail...)
		counts := []int{len(c.mail), 0}
		same(t, c.move, y, api.Item{ID: 5, Type: "a", State: c.state, Since: 9, Attrs: c.attrs, Counts: counts, Box: x.Box})
		want(t, c.move+" sends", len(l), 0)
		same(t, c.move+": the key", item.Key(d, y), item.Key(d, x))
		wanted := start()
		wanted.Box = []api.Mail{{ID: 4, Channel: "c", Key: row(num(1)), Fields: row(num(1), sym("red"), list(1))}}
		same(t, c.move+": what was handed in", x, wanted)
	}
}

// TestSetFails: P15.2, the first Set that fails counts.
func TestSetFails(t *testing.T) {
	d := read(t, `artifact a { attr k int; attr n int; attr m int; attr s list; key k; state s start; state e final; in i 0..9; out o 0..9;
		move over: s -> s set n = n + 1;
		move two: s -> s set s = push(s, 1) set m = 1 / n;
		move owt: s -> s set m = 1 / n set s = push(s, 1);
		move last: s -> s set m = 5 set n = at(s, 20) send o;
		move mail: s -> s on i set m = n / msg.m;
		move when: s -> s when n == 1 set m = 1 / n; }
		channel c: a.o -> a.i by 1 / n for 1..1 carry m;`)
	long := list(make([]int64, 16)...)
	for _, c := range []struct {
		move string
		n    int64
		s    api.Value
		bad  api.Errno
	}{
		{"over", math.MaxInt64, list(), api.ErrOver}, {"over", 0, list(), api.OK},
		{"two", 0, long, api.ErrPlace}, {"two", 0, list(), api.ErrZero}, {"two", 1, long, api.ErrPlace}, {"two", 1, list(), api.OK},
		{"owt", 0, long, api.ErrZero}, {"owt", 0, list(), api.ErrZero}, {"owt", 1, long, api.ErrPlace}, {"owt", 1, list(), api.OK},
		{"last", 0, list(), api.ErrPlace}, {"last", 1, long, api.ErrPlace},
	} {
		x := made(t, d, "a", num(1), num(c.n), num(0), c.s)
		want(t, c.move+" is possible", Able(d, x, c.move, 0), api.OK)
		if c.bad != api.OK {
			doFails(t, c.move, d, x, c.move, 0, c.bad)
		} else {
			does(t, d, x, c.move, 0)
		}
	}
	x := made(t, d, "a", num(1), num(0), num(0), list())
	m := api.Mail{Channel: "c", Key: row(num(1)), Fields: row(num(0))}
	want(t, "mail is possible", Able(d, x, "mail", 0, m), api.OK)
	doFails(t, "mail", d, x, "mail", 0, api.ErrZero, m)
	name, bad := First(d, x, 0, m)
	want(t, "First looks at no Sets", name, "mail")
	want(t, "First looks at no Sets", bad, api.OK)
	doFails(t, "the error of Able goes ahead", d, x, "when", 0, api.ErrState)
}

// sendsSource has several channels from each of some ports.
const sendsSource = `artifact a { attr k int; attr n int; attr t text; attr s list; key k; state s start; state e final; in i 0..9; in j 0..9; out o 0..9; out p 0..9; out q 0..9;
	move go: s -> e set n = n + 1 set t = "after" send q send o;
	move one: s -> s send p;
	move none: s -> s set n = 0;
	move mail: s -> s on i set n = msg.n send p;
}
artifact z { attr n text; attr m int; attr s text; key m, n; state s start; in i 0..9; out o 0..9; out q 0..9;
	move go: s -> s set s = n send o;
}
channel c1: a.o -> a.i by n for 0..1 carry n;
channel c2: a.q -> z.i by n * 2, t for 0..1 carry s, k, t;
channel c3: a.p -> a.i by k for 0..1 carry n;
channel c4: z.o -> a.j by m for 0..1;
channel c5: a.q -> a.i by k - n for 0..1 carry n;
channel c6: z.q -> a.j by m for 0..1;
channel c7: a.o -> z.i by 4, "four" for 0..1 carry s, k, t;
`

// TestSends: P15.2, the ports in the order of the Sends, of each one its
// channels in their order.
func TestSends(t *testing.T) {
	d := read(t, sendsSource)
	x := made(t, d, "a", num(1), num(2), text("before"), list(6))
	y, l := does(t, d, x, "go", 3)
	same(t, "go", y, api.Item{ID: 5, Type: "a", State: "e", Since: 3, Attrs: row(num(1), num(3), text("after"), list(6)), Counts: []int{0, 0, 1, 0, 1}})
	same(t, "go sends", l, []Send{
		{"c2", row(num(6), text("after")), row(list(6), num(1), text("after"))},
		{"c5", row(num(-2)), row(num(3))},
		{"c1", row(num(3)), row(num(3))},
		{"c7", row(num(4), text("four")), row(list(6), num(1), text("after"))},
	})
	y, l = does(t, d, x, "one", 0)
	same(t, "one", y.Counts, []int{0, 0, 0, 1, 0})
	same(t, "one sends", l, []Send{{"c3", row(num(1)), row(num(2))}})
	_, l = does(t, d, x, "none", 0)
	want(t, "none sends", len(l), 0)
	m := api.Mail{ID: 9, Channel: "c5", Key: row(num(8)), Fields: row(num(44))}
	y, l = does(t, d, x, "mail", 0, m)
	same(t, "mail", y.Counts, []int{1, 0, 0, 1, 0})
	same(t, "mail sends", l, []Send{{"c3", row(num(1)), row(num(44))}})
	z := made(t, d, "z", text("z"), num(7), text(""))
	_, l = does(t, d, z, "go", 0)
	same(t, "z sends", l, []Send{{"c4", row(num(7)), row()}})
}

// TestByFails: P15.2, the first error of a By, with the values after the move.
func TestByFails(t *testing.T) {
	d := read(t, `artifact a { attr k int; attr n int; attr s list; key k, n; state s start; in i 0..9; out o 0..9; out p 0..9; attr m int;
		move zero: s -> s set m = 0 send o;
		move one: s -> s set m = 1 send o;
		move both: s -> s set m = 0 send p send o;
		move swap: s -> s set m = 0 send o send p;
		move place: s -> s set s = [] set m = 1 send p;
		move set: s -> s set m = 1 / m set s = [] send p; }
		channel c1: a.o -> a.i by k, 6 / m for 0..1;
		channel c2: a.p -> a.i by at(s, 0), 6 / m for 0..1;
		channel c3: a.o -> a.i by at(s, 1), 0 for 0..1;`)
	x := made(t, d, "a", num(1), num(2), list(3, 4), num(1))
	for _, c := range []struct {
		move string
		m    int64
		s    api.Value
		bad  api.Errno
	}{
		{"zero", 1, list(3, 4), api.ErrZero}, {"zero", 1, list(), api.ErrZero},
		{"one", 0, list(3, 4), api.OK}, {"one", 0, list(3), api.ErrPlace}, {"one", 0, list(), api.ErrPlace},
		{"both", 1, list(3, 4), api.ErrZero}, {"both", 1, list(), api.ErrPlace}, {"swap", 1, list(), api.ErrZero},
		{"place", 1, list(3, 4), api.ErrPlace}, {"set", 0, list(), api.ErrZero}, {"set", 1, list(5), api.ErrPlace},
	} {
		x.Attrs[3], x.Attrs[2] = num(c.m), c.s
		want(t, c.move+" is possible", Able(d, x, c.move, 0), api.OK)
		if c.bad != api.OK {
			doFails(t, c.move, d, x, c.move, 0, c.bad)
			continue
		}
		_, l := does(t, d, x, c.move, 0)
		same(t, c.move, l, []Send{{"c1", row(num(1), num(6)), row()}, {"c3", row(num(4), num(0)), row()}})
	}
}

// TestFirst: P15.3, the first possible one of the moves on a port.
func TestFirst(t *testing.T) {
	d := read(t, `artifact a { attr k int; attr n int; key k; state s start; state u; state e final; in i 0..9; in j 0..1; in l 0..9; out o 0..9; out p 2..9;
		move no: s -> u when n > 0;
		move other: s -> u on j;
		move else: u -> s on i;
		move late: s -> u on i after 5 when n < 3;
		move zero: s -> u on i after 2 when 1 / n > -9 && n != 1 && n != 4;
		move many: s -> e on i after 2 when n == 4;
		move last: s -> s on i when n == 1 || msg.n == 8;
		move more: s -> s on i when n == 1; }
		channel c: a.o -> a.i by k for 1..1 carry n;
		channel d: a.o -> a.j by k for 1..1;
		channel l: a.o -> a.l by k for 1..1;
		channel e: a.p -> a.i by 1 for 1..1 carry n;`)
	at := func(channel string, fields ...api.Value) api.Mail {
		return api.Mail{Channel: channel, Key: row(num(1)), Fields: fields}
	}
	for _, c := range []struct {
		state  string
		n, now int64
		m      api.Mail
		name   string
		bad    api.Errno
	}{
		{"s", 1, 0, at("c", num(0)), "last", api.OK}, {"s", 1, 0, at("e", num(0)), "last", api.OK}, {"s", 1, 5, at("c", num(0)), "late", api.OK}, {"s", 3, 5, at("c", num(0)), "zero", api.OK},
		{"s", 2, 5, at("c", num(8)), "late", api.OK}, {"s", 2, 4, at("c", num(8)), "zero", api.OK}, {"s", 2, 1, at("c", num(8)), "last", api.OK},
		{"s", 2, 1, at("c", num(0)), "", api.ErrState}, {"s", 0, 2, at("c", num(0)), "", api.ErrState}, {"s", 4, 9, at("c", num(8)), "last", api.OK}, {"s", 4, 9, at("c", num(0)), "", api.ErrState},
		{"u", 0, 0, at("c", num(0)), "else", api.OK}, {"s", 0, 0, at("d"), "other", api.OK}, {"u", 0, 0, at("d"), "", api.ErrState}, {"s", 0, 0, at("l"), "", api.ErrState}, {"u", 0, 0, at("l"), "", api.ErrState},
		{"s", 1, 0, at("c"), "", api.ErrForm}, {"s", 1, 0, at("c", text("0")), "", api.ErrForm}, {"s", 1, 0, at("c", num(0), num(0)), "", api.ErrForm}, {"s", 1, 0, at("none", num(0)), "", api.ErrForm},
		{"s", 1, 0, at(""), "", api.ErrForm}, {"s", 1, 0, api.Mail{}, "", api.ErrForm}, {"s", 1, 0, api.Mail{Channel: "c", Fields: row(num(0))}, "", api.ErrForm},
		{"u", 0, 0, at("d", num(0)), "", api.ErrForm}, {"s", 0, 0, at("l", num(0)), "", api.ErrForm},
	} {
		x := made(t, d, "a", num(1), num(c.n))
		x.State = c.state
		name, bad := First(d, x, c.now, c.m)
		want(t, "First in "+c.state, name, c.name)
		want(t, "First in "+c.state, bad, c.bad)
		if bad == api.OK {
			want(t, "it is possible", Able(d, x, name, c.now, c.m), api.OK)
		}
	}
	x := made(t, d, "a", num(1), num(0))
	x.State, x.Counts = "e", []int{0, 0, 0, 0, 2}
	want(t, "it fits", item.Check(d, x), api.OK)
	firstFails(t, "in a final state", d, x, 0, api.ErrState, at("c", num(0)))
	firstFails(t, "in a final state", d, x, 0, api.ErrForm, at("c"))
}

// TestFirstError: P15.3, the error is that of the first move with this On and
// From, not of another one.
func TestFirstError(t *testing.T) {
	const head = "artifact a { attr k int; attr n int; attr s list; key k; state s start; state u; in i 0..2; out o 0..9; "
	const tail = "} channel c: a.o -> a.i by k for 1..1 carry n;"
	parts := map[string]api.Errno{
		"s -> s on i after 9;":             api.ErrState,
		"s -> s on i when 1 / n == 1;":     api.ErrZero,
		"s -> s on i when at(s, n) == 1;":  api.ErrPlace,
		"s -> s on i when n > 0;":          api.ErrState,
		"s -> s on i when -msg.n > 0;":     api.ErrOver,
		"u -> s on i when 1 / n == 1;":     api.OK,
		"s -> u when 1 / n == 1;":          api.OK,
		"u -> u on i when at(s, n) == 1;":  api.OK,
		"u -> u on i when at(s, n) == 1 ;": api.OK,
	}
	m := api.Mail{Channel: "c", Key: row(num(1)), Fields: row(num(math.MinInt64))}
	for first, one := range parts {
		for second, two := range parts {
			for third, three := range parts {
				source := head + "move a: " + first + "move b: " + second + "move c: " + third + tail
				d := read(t, source)
				wanted := api.ErrState
				for _, bad := range []api.Errno{three, two, one} {
					if bad != api.OK {
						wanted = bad
					}
				}
				firstFails(t, source, d, made(t, d, "a", num(1), num(0), list()), 0, wanted, m)
			}
		}
	}
	d := read(t, head+"move a: s -> s on i send o; move b: s -> s on i when 1 / n == 1; "+tail)
	x := made(t, d, "a", num(1), num(0), list())
	x.Counts[0] = 2
	firstFails(t, "at Max, then a When that fails", d, x, 0, api.ErrCount, m)
	if s := strings.Repeat("x", 9999); Able(d, x, s, 0) != api.ErrName {
		t.Error("a long name")
	}
}
