package group

import (
	"cmp"
	"reflect"
	"slices"
	"testing"

	"switchyard/api"
	"switchyard/item"
)

// dice are numbers that look thrown, and are the same in each run.
type dice uint64

func (d *dice) below(n int) int {
	*d = *d*6364136223846793005 + 1442695040888963407
	return int(uint64(*d) >> 33 % uint64(n))
}

func one[T any](d *dice, l ...T) T { return l[d.below(len(l))] }

// someItems are artifacts, most of which fit and have IDs of their own.
func (d *dice) someItems() []api.Item {
	var out []api.Item
	for i := range d.below(9) {
		id := int64(d.below(100)*9 + i - 300)
		if d.below(40) == 0 {
			id = 7
		}
		x := made(id, in(one(d, "new", "new", "new", "new", "new", "new", "mid", "end")), with(0, num(int64(one(d, 1, 1, 2, 2, 3, 3, 5, 5, 4, 7, 0)))), with(1, num(int64(d.below(3)))))
		if d.below(5) == 0 {
			x.Counts = []int{d.below(2), d.below(4), d.below(3), d.below(4)}
		}
		if d.below(8) == 0 {
			x = ofB(id, with(1, num(int64(d.below(2)))))
		}
		if d.below(100) == 0 {
			x.Since = -1
		}
		out = append(out, x)
	}
	return out
}

// rules are what full says of a milestone by n: from where to where, for how
// many, whether there is a When, and whether it ends.
type rules struct {
	typ, from, to string
	low, high     int
	when, ends    bool
}

func allRules() map[string]rules {
	return map[string]rules{
		"byN": {"a", "new", "mid", 1, 3, false, false}, "stay": {"a", "new", "new", 2, 4, false, false}, "two": {"a", "mid", "new", 2, 2, false, false}, "shut": {"a", "mid", "fin", 1, 2, false, true},
		"open": {"a", "new", "mid", 2, 3, true, false}, "close": {"a", "new", "end", 2, 3, true, true}, "atB": {"b", "new", "mid", 1, 3, false, false},
	}
}

// expectedMembers is what Members has to answer, by the chapter's words.
func expectedMembers(d api.Def, items []api.Item, r rules, v api.Value) ([]api.Item, api.Errno) {
	if v.Kind != api.Int {
		return nil, api.ErrKind
	}
	ids := map[int64]int{}
	var out []api.Item
	for _, x := range items {
		if bad := item.Lies(d, x); bad != api.OK {
			return nil, bad
		}
		if ids[x.ID]++; x.Type == r.typ && x.State != "end" && x.State != "fin" && reflect.DeepEqual(x.Attrs[1], v) {
			out = append(out, x)
		}
	}
	if len(ids) < len(items) {
		return nil, api.ErrTwice
	}
	slices.SortFunc(out, func(a, b api.Item) int { return cmp.Compare(a.ID, b.ID) })
	return out, api.OK
}

// expected is what Gather has to answer, by the chapter's words.
func expected(d api.Def, items []api.Item, r rules, v api.Value, now int64) ([]api.Item, api.Errno) {
	l, bad := expectedMembers(d, items, r, v)
	if bad != api.OK {
		return nil, bad
	}
	if now < 0 || now > 1<<52 {
		return nil, api.ErrArg
	}
	if len(l) < r.low || len(l) > r.high {
		return nil, api.ErrCount
	}
	for _, x := range l {
		if x.State != r.from {
			return nil, api.ErrState
		}
		k := x.Attrs[0].Num
		if r.when && k == 0 {
			return nil, api.ErrZero
		}
		if r.when && 12/k <= 1 {
			return nil, api.ErrState
		}
		if r.ends && (x.Counts[1] < 1 || x.Counts[3] < 2) {
			return nil, api.ErrCount
		}
	}
	return moved(l, r.to, now), api.OK
}

// TestByChance: P21.1 to P21.3, artifacts by chance, and what the chapter says
// of them.
func TestByChance(t *testing.T) {
	dice := new(dice)
	d := read(t, full)
	count := map[api.Errno]int{}
	var names []string
	for name := range allRules() {
		names = append(names, name)
	}
	slices.Sort(names)
	for range 20000 {
		name, items := one(dice, names...), dice.someItems()
		v, now := num(int64(dice.below(3))), int64(dice.below(30)-1)
		if dice.below(50) == 0 {
			v = flag(1)
		}
		r := allRules()[name]
		l, bad := expectedMembers(d, items, r, v)
		var wanted []int64
		for _, x := range l {
			wanted = append(wanted, x.ID)
		}
		if bad == api.OK {
			has(t, name, d, items, name, v, wanted...)
		} else {
			fails(t, name, bad, d, items, name, v, now)
		}
		l, bad = expected(d, items, r, v, now)
		if count[bad]++; bad == api.OK {
			gathers(t, name, d, items, name, v, now, l...)
		} else {
			stays(t, name, bad, d, items, name, v, now)
		}
	}
	for _, bad := range []api.Errno{api.OK, api.ErrKind, api.ErrTwice, api.ErrArg, api.ErrCount, api.ErrState, api.ErrZero} {
		want(t, "so many of "+bad.Error(), min(count[bad], 100), 100)
	}
}
