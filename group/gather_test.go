package group

import (
	"math"
	"slices"
	"testing"

	"switchyard/api"
)

// notTimes are numbers that are no time.
var notTimes = []int64{-1, api.MaxTime + 1, math.MinInt64, math.MaxInt64}

// up are the numbers from 1 to n.
func up(n int) []int64 {
	var out []int64
	for i := range n {
		out = append(out, int64(i+1))
	}
	return out
}

// TestHowMany: P21.2, from no member to more than Low..High.
func TestHowMany(t *testing.T) {
	d := read(t, full)
	others := []api.Item{made(-1, in("end")), made(-2, with(1, num(6))), ofB(-3), made(999, in("fin"))}
	for _, c := range []struct {
		name, from, to string
		low, high      int
	}{
		{"byN", "new", "mid", 1, 3}, {"stay", "new", "new", 2, 4}, {"two", "mid", "new", 2, 2}, {"open", "new", "mid", 2, 3}, {"close", "new", "end", 2, 3}, {"shut", "mid", "fin", 1, 2},
	} {
		for n := range 7 {
			items := some(up(n)...)
			for i := range items {
				items[i].State = c.from
			}
			for _, l := range [][]api.Item{items, slices.Concat(others, items), slices.Concat(items, others)} {
				has(t, c.name, d, l, c.name, num(5), up(n)...)
				if n >= c.low && n <= c.high {
					gathers(t, c.name, d, l, c.name, num(5), 9, moved(items, c.to, 9)...)
				} else {
					stays(t, c.name, api.ErrCount, d, l, c.name, num(5), 9)
				}
			}
		}
	}
	many := some(up(api.MaxCount + 1)...)
	has(t, "big", d, many, "big", num(5), up(api.MaxCount+1)...)
	stays(t, "big", api.ErrCount, d, many, "big", num(5), 9)
	gathers(t, "big", d, many[1:], "big", num(5), 9, moved(many[1:], "mid", 9)...)
	gathers(t, "big", d, many[2:], "big", num(5), 9, moved(many[2:], "mid", 9)...)
}

// TestTime: P21.2, a time that is none, which Members does not know of.
func TestTime(t *testing.T) {
	d := read(t, full)
	for _, now := range notTimes {
		for n := range 6 {
			for _, name := range []string{"byN", "close", "shut"} {
				stays(t, name, api.ErrArg, d, some(up(n)...), name, num(5), now)
			}
		}
		stays(t, "members that may not move", api.ErrArg, d, []api.Item{made(1, with(0, num(0))), made(2, in("mid"))}, "open", num(5), now)
	}
}

// hurdle is what keeps a member from moving.
type hurdle struct {
	what string
	do   func(x *api.Item)
	bad  api.Errno
}

// hurdles are those of a member of close, in the order in which they count.
func hurdles() []hurdle {
	return []hurdle{
		{"in another state", in("mid"), api.ErrState},
		{"When fails", with(0, num(0)), api.ErrZero},
		{"When is false", with(0, num(7)), api.ErrState},
		{"the first counter is too little", counting(0, 0, 9, 3), api.ErrCount},
		{"the last counter is too little", counting(9, 3, 0, 1), api.ErrCount},
		{"all counters are too little", counting(0, 0, 0, 0), api.ErrCount},
	}
}

// TestHurdles: P21.2 and P21.3, what keeps one member, wherever it is, keeps
// all of them.
func TestHurdles(t *testing.T) {
	d := read(t, full)
	for _, h := range hurdles() {
		for n := 2; n <= 3; n++ {
			for i := range n {
				items := some(up(n)...)
				h.do(&items[i])
				for range n {
					items = append(items[1:], items[0])
					has(t, h.what, d, items, "close", num(5), up(n)...)
					stays(t, h.what, h.bad, d, items, "close", num(5), 9)
				}
			}
		}
		items := some(1, 2, 3)
		h.do(&items[0])
		if h.bad == api.ErrCount {
			gathers(t, h.what+", but To is not final", d, items, "open", num(5), 9, moved(items, "mid", 9)...)
		} else {
			stays(t, h.what+", and To is not final", h.bad, d, items, "open", num(5), 9)
		}
		items[0].Attrs[1] = num(6)
		gathers(t, h.what+", but is no member", d, items, "close", num(5), 9, moved(items[1:], "end", 9)...)
	}
}

// TestTwoHurdles: P21.2, of two of one member the first one counts, of two of
// several members that of the lowest ID.
func TestTwoHurdles(t *testing.T) {
	d := read(t, full)
	all := hurdles()
	for i, first := range all {
		for j, second := range all {
			for n := 2; n <= 3; n++ {
				items := some(up(n)...)
				first.do(&items[n-2])
				second.do(&items[n-1])
				for range n {
					items = append(items[1:], items[0])
					stays(t, first.what+", then "+second.what, first.bad, d, items, "close", num(5), 9)
				}
				if i >= j || i == 1 && j == 2 || first.bad == second.bad {
					continue
				}
				items = some(up(n)...)
				second.do(&items[1])
				first.do(&items[1])
				stays(t, first.what+" and "+second.what, first.bad, d, items, "close", num(5), 9)
			}
		}
	}
	three := some(1, 2, 3)
	all[0].do(&three[2])
	all[3].do(&three[1])
	all[1].do(&three[0])
	stays(t, "all three", api.ErrZero, d, three, "close", num(5), 9)
	all[3].do(&three[0])
	all[0].do(&three[0])
	stays(t, "the first one for three reasons", api.ErrState, d, three, "close", num(5), 9)
}

// TestWhens: P21.2, each end that a When may come to.
func TestWhens(t *testing.T) {
	for when, bad := range map[string]api.Errno{
		"true": api.OK, "k == 1 && n == 5 && f && t == \"t\" && c == 'blue && e == 'big && l == [1, 2]": api.OK, "k < n || 1 / 0 == 1": api.OK, "at(l, 1) == 2": api.OK,
		"false": api.ErrState, "k != 1": api.ErrState, "!f": api.ErrState, "n < k": api.ErrState, "len(l) == 0": api.ErrState, "c == 'red": api.ErrState,
		"1 / (k - 1) == 1": api.ErrZero, "n % 0 == 0": api.ErrZero, "-9223372036854775807 - n < 0": api.ErrOver, "at(l, 2) == 1": api.ErrPlace, "k != 1 && 1 / 0 == 1": api.ErrState, "k == 1 && 1 / 0 == 1": api.ErrZero,
		"f && at(l, n) < 1 / 0": api.ErrPlace,
	} {
		d := read(t, full+"milestone m: a new -> mid by n for 1..2 when "+when+";")
		for n := 1; n <= 2; n++ {
			items := some(up(n)...)
			if bad == api.OK {
				gathers(t, when, d, items, "m", num(5), 9, moved(items, "mid", 9)...)
			} else {
				stays(t, when, bad, d, items, "m", num(5), 9)
			}
		}
		has(t, when, d, some(1), "m", num(5), 1)
	}
}

// TestFinal: P21.2, counters at Min and below it.
func TestFinal(t *testing.T) {
	d := read(t, full)
	for _, c := range []struct {
		counts []int
		bad    api.Errno
	}{
		{[]int{0, 1, 0, 2}, api.OK}, {[]int{0, 2, 0, 2}, api.OK}, {[]int{9, 3, 9, 3}, api.OK}, {[]int{9, 1, 9, 2}, api.OK},
		{[]int{0, 0, 0, 2}, api.ErrCount}, {[]int{0, 1, 0, 1}, api.ErrCount}, {[]int{0, 3, 0, 0}, api.ErrCount}, {[]int{9, 0, 9, 3}, api.ErrCount}, {[]int{2, 0, 1, 0}, api.ErrCount},
	} {
		items := []api.Item{made(1, in("mid"), counting(c.counts...)), made(2, in("mid"))}
		if c.bad == api.OK {
			gathers(t, "to a final state", d, items, "shut", num(5), 9, moved(items, "fin", 9)...)
		} else {
			stays(t, "to a final state", c.bad, d, items, "shut", num(5), 9)
			stays(t, "to a final state, in reverse", c.bad, d, []api.Item{items[1], items[0]}, "shut", num(5), 9)
		}
		gathers(t, "to another state", d, items, "two", num(5), 9, moved(items, "new", 9)...)
	}
}
