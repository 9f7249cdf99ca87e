package route

import (
	"reflect"
	"slices"
	"testing"

	"switchyard/api"
)

// dice are numbers that look thrown, and are the same in each run.
type dice uint64

func (d *dice) below(n int) int {
	*d = *d*6364136223846793005 + 1442695040888963407
	return int(uint64(*d) >> 33 % uint64(n))
}

func one[T any](d *dice, l []T) T { return l[d.below(len(l))] }

// someItems are artifacts of which several have one ID, and one key.
func (d *dice) someItems() []api.Item {
	var out []api.Item
	for range d.below(13) {
		a := made(one(d, []string{"a", "a", "a", "b", "z", "none"}), int64(d.below(12)-1), one(d, []string{"red", "red", "blue"}), int64(d.below(2)))
		a.State = one(d, []string{"one", "one", "one", "two", "end", "s", ""})
		if a.Type == "z" {
			a.Attrs = row(list(int64(d.below(2))))
		}
		if d.below(5) == 0 {
			a.Attrs = a.Attrs[:d.below(len(a.Attrs))]
		}
		out = append(out, a)
	}
	return out
}

// expected is what Over has to answer, by the chapter's words.
func expected(items []api.Item, c api.Channel, key []api.Value) answer {
	var ids []int64
	for i, a := range items {
		later := slices.ContainsFunc(items[i+1:], func(b api.Item) bool { return b.ID == a.ID })
		if !later && a.Type == c.To && livesAs(a) && reflect.DeepEqual(keyOf(a), key) {
			ids = append(ids, a.ID)
		}
	}
	slices.Sort(ids)
	fate, why := verdict(c.Low, c.High, len(ids), c.Spawn)
	if fate != Goes {
		ids = nil
	}
	return answer{ids: ids, fate: fate, why: why}
}

// livesAs reports whether an artifact is in a state of its type in full that
// is not final.
func livesAs(a api.Item) bool {
	switch a.Type {
	case "a":
		return a.State == "one" || a.State == "two"
	case "b":
		return a.State == "one"
	case "z":
		return a.State == "s"
	}
	return false
}

// keyOf is the key of an artifact of full, or nothing if it has not all of it.
func keyOf(a api.Item) []api.Value {
	if a.Type == "z" && len(a.Attrs) > 0 {
		return row(a.Attrs[0])
	}
	if a.Type != "z" && len(a.Attrs) > 1 {
		return row(a.Attrs[1], a.Attrs[0])
	}
	return nil
}

// TestByChance: P17.2 and P17.3, artifacts by chance, and what the chapter says
// of them.
func TestByChance(t *testing.T) {
	r := new(dice(17))
	d := read(t, full)
	seen := map[[2]int]int{}
	for range 8000 {
		items := r.someItems()
		c := one(r, d.Channels)
		key := row(sym(one(r, []string{"red", "blue"})), num(int64(r.below(2))))
		if c.To == "z" {
			key = row(list(int64(r.below(2))))
		}
		wanted := expected(items, c, key)
		gives(t, c.Name, d, items, c.Name, key, wanted)
		seen[[2]int{wanted.fate, wanted.why}]++
	}
	for _, fate := range [][2]int{{Goes, 0}, {Spawns, 0}, {Lost, api.NoMatch}, {Lost, api.TooFew}, {Lost, api.TooMany}} {
		want(t, "so many of a fate", min(seen[fate], 50), 50)
	}
}
