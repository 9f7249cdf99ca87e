package index

import (
	"math"
	"reflect"
	"slices"
	"testing"

	"switchyard/api"
	"switchyard/value"
)

// dice are numbers that look thrown, and are the same in each run.
type dice uint64

func (d *dice) below(n int) int {
	*d = *d*6364136223846793005 + 1442695040888963407
	return int(uint64(*d) >> 33 % uint64(n))
}

func one[T any](d *dice, l []T) T { return l[d.below(len(l))] }

// act is a Put, or a Drop.
type act struct {
	item api.Item
	drop bool
}

func (a act) on(x *Index) {
	if a.drop {
		x.Drop(a.item.ID)
	} else {
		x.Put(a.item)
	}
}

// last are the artifacts that are there behind some acts: those whose ID no
// later act has.
func last(acts []act) []api.Item {
	var out []api.Item
	for i, a := range acts {
		later := slices.ContainsFunc(acts[i+1:], func(b act) bool { return b.item.ID == a.item.ID })
		if !later && !a.drop {
			out = append(out, a.item)
		}
	}
	return out
}

// those are the IDs of the artifacts for which something holds, in order.
func those(items []api.Item, holds func(api.Item) bool) []int64 {
	var out []int64
	for _, a := range items {
		if holds(a) {
			out = append(out, a.ID)
		}
	}
	slices.Sort(out)
	return out
}

// typeOf is the first type of a name.
func typeOf(d api.Def, name string) (api.Type, bool) {
	for _, t := range d.Types {
		if t.Name == name {
			return t, true
		}
	}
	return api.Type{}, false
}

// valueOf is the value of the first attribute of a name.
func valueOf(t api.Type, a api.Item, name string) (api.Value, bool) {
	for i, attr := range t.Attrs {
		if attr.Name == name {
			if i < len(a.Attrs) {
				return a.Attrs[i], true
			}
			return api.Value{}, false
		}
	}
	return api.Value{}, false
}

// find is what Find has to answer, by the chapter's words.
func find(d api.Def, items []api.Item, typ string, key []api.Value) []int64 {
	t, found := typeOf(d, typ)
	return those(items, func(a api.Item) bool {
		if !found || a.Type != typ || len(key) != len(t.Key) {
			return false
		}
		for i, name := range t.Key {
			v, has := valueOf(t, a, name)
			if !has || !value.Same(v, key[i]) {
				return false
			}
		}
		return true
	})
}

// with is what With has to answer, by the chapter's words.
func with(d api.Def, items []api.Item, typ, attr string, v api.Value) []int64 {
	t, _ := typeOf(d, typ)
	return those(items, func(a api.Item) bool {
		w, has := valueOf(t, a, attr)
		return has && a.Type == typ && value.Same(v, w)
	})
}

var (
	someTypes = []string{"b", "c", "e", "f", "", "h", "none"}
	someAttrs = []string{"p", "q", "", "none"}
	someIDs   = []int64{math.MinInt64, -7, -1, 0, 1, 2, 3, 4, 5, 6, 1000, math.MaxInt64}
)

func someVals() []api.Value {
	return row(num(0), num(1), num(1), num(1), flag(1), text("1"), sym("a"), list(), list(1), api.Value{}, api.Value{Kind: api.Int, Num: 1, Text: "1"})
}

func (d *dice) row(n int) []api.Value {
	var out []api.Value
	for range n {
		out = append(out, one(d, someVals()))
	}
	return out
}

func (d *dice) act() act {
	a := api.Item{ID: one(d, someIDs), Type: one(d, someTypes), Attrs: d.row(d.below(6))}
	return act{a, d.below(3) == 0}
}

// agrees checks all of an index's answers against the chapter's words.
func agrees(t *testing.T, d api.Def, r *dice, x *Index, items []api.Item) {
	t.Helper()
	for _, typ := range someTypes {
		all := x.All(typ)
		gives(t, "All of "+typ, all, those(items, func(a api.Item) bool { return a.Type == typ })...)
		keys := [][]api.Value{nil, r.row(1), r.row(2), r.row(6)}
		for _, a := range items {
			if t, _ := typeOf(d, typ); a.Type == typ {
				var key []api.Value
				for _, name := range t.Key {
					v, _ := valueOf(t, a, name)
					key = append(key, v)
				}
				keys = append(keys, key)
			}
		}
		for _, key := range keys {
			got := x.Find(typ, key...)
			gives(t, "Find in "+typ, got, find(d, items, typ, key)...)
			want(t, "Find is of All", slices.ContainsFunc(got, func(id int64) bool { return !slices.Contains(all, id) }), false)
		}
		for _, attr := range someAttrs {
			v := one(r, someVals())
			gives(t, "With "+attr+" in "+typ, x.With(typ, attr, v), with(d, items, typ, attr, v)...)
		}
	}
}

// TestByChance: P16.1, acts by chance, and behind each of them what the
// chapter says.
func TestByChance(t *testing.T) {
	r := new(dice(16))
	d := odd()
	found := 0
	for range 60 {
		x := New(d)
		var acts []act
		for range 40 {
			acts = append(acts, r.act())
			acts[len(acts)-1].on(x)
			agrees(t, d, r, x, last(acts))
		}
		for _, typ := range someTypes {
			found += len(x.Find(typ, num(1)))
		}
	}
	want(t, "some are found", found > 20, true)
}

// TestAnyOrder: P16.2, the order of the acts does not matter, but for the last
// one of each ID.
func TestAnyOrder(t *testing.T) {
	r := new(dice(17))
	d := odd()
	for range 300 {
		var acts []act
		for range 30 {
			acts = append(acts, r.act())
		}
		x, y, z := New(d), New(d), New(d)
		for _, a := range acts {
			a.on(x)
		}
		for _, a := range r.shuffled(acts) {
			a.on(y)
		}
		for _, a := range r.shuffled(acts) {
			a.on(y)
		}
		items := last(acts)
		for _, i := range r.order(len(items)) {
			z.Put(items[i])
		}
		for _, i := range r.order(len(someIDs)) {
			lastOf(acts, someIDs[i]).on(y)
		}
		want(t, "only the last ones", reflect.DeepEqual(x, z), true)
		want(t, "in another order", reflect.DeepEqual(x, y), true)
		agrees(t, d, r, y, items)
	}
}

// order is 0, 1 and so on in an order by chance.
func (d *dice) order(n int) []int {
	out := make([]int, n)
	for i := range out {
		j := d.below(i + 1)
		out[i] = out[j]
		out[j] = i
	}
	return out
}

func (d *dice) shuffled(acts []act) []act {
	var out []act
	for _, i := range d.order(len(acts)) {
		out = append(out, acts[i])
	}
	return out
}

// lastOf is the last act of an ID; without any, a Drop.
func lastOf(acts []act, id int64) act {
	out := act{api.Item{ID: id}, true}
	for _, a := range acts {
		if a.item.ID == id {
			out = a
		}
	}
	return out
}
