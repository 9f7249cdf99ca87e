package feed

import (
	"math"
	"slices"
	"strings"
	"testing"

	"switchyard/api"
	"switchyard/check"
)

// ends are the ends of int64 and what lies beside them.
func ends() []int64 {
	return []int64{math.MinInt64, math.MinInt64 + 1, -1, 0, 1, math.MaxInt64 - 1, math.MaxInt64}
}

// TestNothing: P23.2, no events: all is read up to where it was.
func TestNothing(t *testing.T) {
	d := read(t, source)
	for _, past := range ends() {
		for _, n := range []int{1, 2, math.MaxInt} {
			polls(t, "no events", d, nil, past, n, past)
			polls(t, "no events", d, []api.Event{}, past, n, past)
		}
		want(t, "left", Left(d, "r", nil, past), 0)
	}
}

// TestEnds: P23.2, numbers at the ends of int64.
func TestEnds(t *testing.T) {
	d := read(t, source)
	low, high := int64(math.MinInt64), int64(math.MaxInt64)
	l := events(fresh(low), fresh(-1), fresh(0), stale(1), fresh(high))
	polls(t, "the least", d, l, low, 1, -1, -1)
	polls(t, "the least", d, l, low, 2, 0, -1, 0)
	polls(t, "the least", d, l, low, 3, high, -1, 0, high)
	polls(t, "the least", d, l, low, 4, high, -1, 0, high)
	polls(t, "all but one", d, l, high-1, 1, high, high)
	polls(t, "all but one", d, l, high-1, 2, high, high)
	polls(t, "the greatest", d, l, high, 1, high)
	polls(t, "below 0", d, l, -2, 1, -1, -1)
	polls(t, "below 0", d, l, -1, 1, 0, 0)
	polls(t, "of 0", d, l, 0, 1, high, high)
	polls(t, "past the last one", d, l[:4], high, 9, high)
	polls(t, "past the last one", d, l[:4], 2, 9, 2)
	polls(t, "ahead of the last one", d, l[:4], 0, 9, 1)
	polls(t, "one that is not seen", d, events(stale(low)), low, 9, low)
	polls(t, "one that is not seen", d, events(stale(low+1)), low, 9, low+1)
	polls(t, "one that is not seen", d, events(stale(-5)), -7, 9, -5)
	for i, past := range []int64{low, low + 1, -1, 0, 1, high - 1, high} {
		want(t, "left", Left(d, "r", l, past), []int{3, 3, 2, 1, 1, 1, 0}[i])
	}
}

// kinds go through all lists of events with the numbers 1, 3, 5 and 7, each of
// which is there and is seen, or there, or not there.
func kinds(yield func([]api.Event) bool) {
	for i := range 81 {
		var l []api.Event
		for j, n := range []int64{1, 3, 5, 7} {
			switch i / []int{1, 3, 9, 27}[j] % 3 {
			case 1:
				l = append(l, fresh(n))
			case 2:
				l = append(l, stale(n))
			}
		}
		if !yield(l) {
			return
		}
	}
}

// behind are the numbers of those that are seen behind a number.
func behind(l []api.Event, past int64) []int64 {
	var out []int64
	for _, e := range l {
		if e.N > past && e.State == "new" {
			out = append(out, e.N)
		}
	}
	return out
}

// TestAllLists: P23.2, each list of events, from each number, so many at once.
func TestAllLists(t *testing.T) {
	d := read(t, source)
	for l := range kinds {
		for past := int64(-1); past < 10; past++ {
			seen := behind(l, past)
			want(t, "left", Left(d, "r", l, past), len(seen))
			for n := 1; n < 6; n++ {
				until := past
				if len(seen) >= n {
					until = seen[n-1]
				} else if len(l) > 0 {
					until = max(past, l[len(l)-1].N)
				}
				polls(t, "a list", d, l, past, n, until, seen[:min(n, len(seen))]...)
			}
			for _, n := range []int{0, -1, math.MinInt} {
				refuses(t, "a list", api.ErrArg, d, "r", l, past, n)
			}
		}
	}
}

// TestSuccessive: P23.3, polls, each from where the one before ended, answer all
// that is seen, in its order, each once.
func TestSuccessive(t *testing.T) {
	d := read(t, source)
	for l := range kinds {
		for past := int64(-1); past < 9; past++ {
			for n := 1; n < 6; n++ {
				seen := behind(l, past)
				at, left := past, len(seen)
				var all []api.Seen
				for range len(l) + 2 {
					out, next, bad := Poll(d, "r", l, at, n)
					want(t, "a poll", bad, api.OK)
					want(t, "how many", len(out), min(n, left))
					want(t, "not back", next >= at, true)
					all = append(all, out...)
					at, left = next, left-len(out)
					want(t, "left", Left(d, "r", l, at), left)
				}
				same(t, "all polls", all, told(seen...))
			}
		}
	}
}

// TestGrowing: P23.3, the same while events are added, and old ones are dropped
// once they were read.
func TestGrowing(t *testing.T) {
	d := read(t, source)
	for step := 1; step < 5; step++ {
		for n := 1; n < 6; n++ {
			var l []api.Event
			var all, wanted []int64
			past := int64(0)
			for i := range int64(40) {
				for j := range int64(step) {
					e := stale(1 + i*10 + j)
					if (i*j+i)%3 == 0 {
						e = fresh(e.N)
						wanted = append(wanted, e.N)
					}
					l = append(l, e)
				}
				out, next, bad := Poll(d, "r", l, past, n)
				want(t, "a poll", bad, api.OK)
				for _, s := range out {
					all = append(all, s.N)
				}
				past = next
				for len(l) > 2 && l[0].N <= past {
					l = l[1:]
				}
			}
			out, _, _ := Poll(d, "r", l, past, math.MaxInt)
			for _, s := range out {
				all = append(all, s.N)
			}
			same(t, "all polls", all, wanted)
		}
	}
}

// TestRoles: P23.2, each role has the events that it sees, as layer 22 has them.
func TestRoles(t *testing.T) {
	d := read(t, source)
	b := api.Event{N: 30, Name: "create", Item: 9, Type: "b", State: "new", Attrs: []api.Value{num(4)}}
	l := events(fresh(1), stale(2), fresh(5), happened(11, "end"), fresh(21), b, api.Event{N: 31}, api.Event{N: 32, Type: "a", State: "new", Attrs: []api.Value{num(1)}}, stale(33))
	for role, ns := range map[string][]int64{"r": {1, 5, 21}, "all": {1, 2, 5, 11, 21, 30, 33}, "where": {1, 2, 21, 33}, "nobody": nil} {
		for n := 1; n < 9; n++ {
			out, past, bad := Poll(d, role, l, 0, n)
			want(t, role, bad, api.OK)
			var got []int64
			for _, s := range out {
				got = append(got, s.N)
			}
			same(t, role, got, ns[:min(n, len(ns))])
			if n > len(ns) {
				want(t, role+": past", past, 33)
			} else {
				want(t, role+": past", past, ns[n-1])
			}
		}
		want(t, role+": left", Left(d, role, l, 0), len(ns))
	}
	out, _, _ := Poll(d, "all", l[4:6], 0, 9)
	same(t, "two types", out, []api.Seen{
		{N: 21, Name: "gonew", View: api.View{Item: 0, Type: "a", State: "new", Attrs: []api.Value{num(1)}}},
		{N: 30, Name: "create", View: api.View{Item: 9, Type: "b", State: "new"}},
	})
}

// notValid are choreographies like that of source, each with one fault.
func notValid(t *testing.T) map[string]api.Def {
	out := map[string]api.Def{"nothing": {Enums: []api.Enum{{}}}, "only a role": {Roles: []api.Role{{Name: "r", Sees: []api.Sight{{Type: "a"}}}}}}
	for what, spoil := range map[string]func(d *api.Def){
		"a name that is none":       func(d *api.Def) { d.Types[1].Name = "1" },
		"two types of one name":     func(d *api.Def) { d.Types[1].Name = "a" },
		"no Key":                    func(d *api.Def) { d.Types[1].Key = nil },
		"no start":                  func(d *api.Def) { d.Types[1].States[0].Start = false },
		"two roles of one name":     func(d *api.Def) { d.Roles[3].Name = "r" },
		"a sight of no type":        func(d *api.Def) { d.Roles[1].Sees[1].Type = "none" },
		"a sight in no state":       func(d *api.Def) { d.Roles[2].Sees[0].States[0] = "none" },
		"a sight where a number":    func(d *api.Def) { d.Roles[2].Sees[0].Where = api.Expr{Op: api.OpInt} },
		"a right to no move":        func(d *api.Def) { d.Roles[3].May[0].Move = "none" },
		"a milestone of no type":    func(d *api.Def) { d.Groups = []api.Group{{Name: "m"}} },
		"a sight of no attribute":   func(d *api.Def) { d.Roles[0].Sees[0].Attrs[0] = "none" },
		"an enum that has no Syms":  func(d *api.Def) { d.Enums = []api.Enum{{Name: "e"}} },
		"more roles than there may": func(d *api.Def) { d.Roles = append(d.Roles, make([]api.Role, 16)...) },
	} {
		d := read(t, source)
		spoil(&d)
		out[what] = d
	}
	for what, d := range out {
		want(t, "valid with "+what, check.Check(d) == api.OK, false)
	}
	return out
}

// call is all that Poll is given but for the number, and fault what makes one
// that is OK fail.
type call struct {
	d    api.Def
	role string
	l    []api.Event
	n    int
}

type fault struct {
	what string
	do   func(c *call)
}

// faults are those that a call may have, by their rank: a call with several
// answers the error of one whose rank is the lowest.
func faults(t *testing.T) ([][]fault, []api.Errno) {
	out := make([][]fault, 4)
	for what, d := range notValid(t) {
		out[0] = append(out[0], fault{what, func(c *call) { c.d = d }})
	}
	for _, role := range []string{"", "none", "R", "r ", "al", "a", "new", "\xff", strings.Repeat("r", 9999)} {
		out[1] = append(out[1], fault{"no role", func(c *call) { c.role = role }})
	}
	for _, n := range []int{0, -1, -2, math.MinInt} {
		out[2] = append(out[2], fault{"no number", func(c *call) { c.n = n }})
	}
	for _, l := range [][]api.Event{events(fresh(1), fresh(1)), events(fresh(3), fresh(5), stale(4)), events(stale(9), stale(8), fresh(10)), events(fresh(9), api.Event{}), {{}, {}}} {
		out[3] = append(out[3], fault{"events that do not rise", func(c *call) { c.l = l }})
	}
	return out, []api.Errno{api.ErrNoDef, api.ErrRole, api.ErrArg, api.ErrForm}
}

// fails checks that a call with some faults, by ascending ranks, answers an
// error, and that nothing is left, if one of them keeps Left from counting.
func fails(t *testing.T, d api.Def, wanted api.Errno, counts bool, l ...fault) {
	t.Helper()
	for _, past := range []int64{math.MinInt64, 0, 4, math.MaxInt64} {
		c, what := call{d, "r", events(fresh(1), stale(3), fresh(5)), 1}, ""
		for _, f := range l {
			f.do(&c)
			what += f.what + "; "
		}
		refuses(t, what, wanted, c.d, c.role, c.l, past, c.n)
		if !counts {
			want(t, what+"left", Left(c.d, c.role, c.l, past), 0)
		}
	}
}

// TestErrors: P23.2, each error alone, and each two, three and four of them
// together.
func TestErrors(t *testing.T) {
	d := read(t, source)
	all, bads := faults(t)
	for set := 1; set < 16; set++ {
		var lists [][]fault
		var bad api.Errno
		for rank := range slices.Backward(all) {
			if set>>rank&1 == 1 {
				lists, bad = append([][]fault{all[rank]}, lists...), bads[rank]
			}
		}
		if len(lists) > 2 { // one of each is enough, and the whole first list
			for i := range lists[1:] {
				lists[i+1] = lists[i+1][:1]
			}
		}
		for len(lists) < 4 {
			lists = append(lists, []fault{{"", func(*call) {}}})
		}
		for _, f := range lists[0] {
			for _, g := range lists[1] {
				for _, h := range lists[2] {
					for _, i := range lists[3] {
						fails(t, d, bad, set == 4, f, g, h, i)
					}
				}
			}
		}
	}
	want(t, "left, though the number is none", Left(d, "r", events(fresh(1), stale(3), fresh(5)), 1), 1)
	refuses(t, "nothing", api.ErrRole, api.Def{}, "", nil, 0, 0)
	want(t, "left of nothing", Left(api.Def{}, "", nil, 0), 0)
}
