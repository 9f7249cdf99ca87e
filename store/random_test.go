package store

import (
	"maps"
	"slices"
	"testing"

	"switchyard/api"
	"switchyard/block"
	"switchyard/pack"
	"switchyard/wal"
)

// dice is numbers by a fixed rule.
type dice uint64

func (d *dice) below(n int) int {
	*d = *d*6364136223846793005 + 1442695040888963407
	return int(uint64(*d) >> 33 % uint64(n))
}

// word returns some bytes, of which many are alike.
func (d *dice) word(most int) string {
	return xs(d.below(most+1)) + string([]byte{"ab\x00\xff"[d.below(4)]})
}

// change returns some change, seldom one that is too long.
func (d *dice) change() Change {
	c := Change{Key: d.word(2), Value: d.word(60), Gone: d.below(3) == 0}
	switch d.below(60) {
	case 0:
		c.Key = xs(63 + d.below(4))
	case 1:
		c.Value = xs(65535 + d.below(3))
	case 2:
		c.Value = xs(100 + d.below(400))
	case 3:
		c.Key, c.Value = "", ""
	}
	return c
}

// batch returns some changes, seldom too many.
func (d *dice) batch() []Change {
	var l []Change
	for range d.below(5) {
		l = append(l, d.change())
	}
	if d.below(200) == 0 {
		l = append(l, slices.Repeat([]Change{d.change()}, mostChanges-3+d.below(5))...)
	}
	return l
}

// chapter is a store as the chapter's words have it.
type chapter struct {
	log    *wal.Log
	table  map[string]string
	closed bool
}

// behind applies a batch.
func behind(table map[string]string, l []Change) map[string]string {
	out := maps.Clone(table)
	for _, c := range l {
		out[c.Key] = c.Value
		if c.Gone {
			delete(out, c.Key)
		}
	}
	return out
}

// all is the batch that sets every key, in ascending order.
func all(table map[string]string) []Change {
	var l []Change
	for key, value := range table {
		l = append(l, set(key, value))
	}
	slices.SortFunc(l, func(a, b Change) int {
		if a.Key < b.Key {
			return -1
		}
		return 1
	})
	return l
}

// encode returns the encoding of a batch.
func encode(l []Change) (string, api.Errno) {
	if len(l) > 8192 {
		return "", api.ErrMany
	}
	out := []byte(pack.Count(uint64(len(l))))
	for _, c := range l {
		if len(c.Key) > 64 {
			return "", api.ErrLong
		}
		out = append(out, pack.Truth(c.Gone)+pack.Text(c.Key)...)
		if c.Gone {
			continue
		}
		if len(c.Value) > 65536 {
			return "", api.ErrLong
		}
		out = append(out, pack.Text(c.Value)...)
	}
	return string(out), api.OK
}

func (c *chapter) do(l []Change) api.Errno {
	if c.closed {
		return api.ErrClosed
	}
	s, bad := encode(l)
	if bad != api.OK {
		return bad
	}
	next := behind(c.table, l)
	bad = c.log.Append(s)
	if bad == api.ErrFull || bad == api.ErrLong {
		bad = c.write(next)
	}
	if bad == api.OK {
		c.table = next
	}
	c.closed = bad == api.ErrPower
	return bad
}

func (c *chapter) checkpoint() api.Errno {
	if c.closed {
		return api.ErrClosed
	}
	bad := c.write(c.table)
	c.closed = bad == api.ErrPower
	return bad
}

func (c *chapter) write(table map[string]string) api.Errno {
	s, bad := encode(all(table))
	if bad == api.OK {
		bad = c.log.Checkpoint(s)
	} else {
		bad = api.ErrFull
	}
	if bad == api.ErrLong {
		return api.ErrFull
	}
	return bad
}

// has returns all that a store has.
func has(s *Store) map[string]string {
	out := map[string]string{}
	for _, key := range s.Keys("") {
		out[key], _ = s.Get(key)
	}
	return out
}

// TestByTheChapter: acts by chance, of stores on devices of all sorts, held
// against the chapter's words; the power is lost now and then.
func TestByTheChapter(t *testing.T) {
	r := dice(1)
	counts := map[api.Errno]int{}
	for range 150 {
		per := 2 + r.below(9)
		sectors := per * (3 + r.below(4))
		byChance(t, &r, per, block.New(sectors), block.New(sectors), counts)
		if t.Failed() {
			return
		}
	}
	for _, bad := range []api.Errno{api.OK, api.ErrFull, api.ErrLong, api.ErrMany, api.ErrPower, api.ErrClosed} {
		want(t, bad.Error()+" happened", counts[bad] > 20, true)
	}
}

func byChance(t *testing.T, r *dice, per int, d, other *block.Device, counts map[api.Errno]int) {
	t.Helper()
	s := opened(t, d, per)
	l, _, _ := wal.Open(other, per)
	c := &chapter{log: l, table: map[string]string{}}
	for range 120 {
		if r.below(15) == 0 {
			n := 1 + r.below(9)
			crash := api.Crash{Keep: uint64(r.below(1 << 20)), Torn: r.below(12) - 4, At: r.below(65)}
			d.Fuse(n, crash)
			other.Fuse(n, crash)
		}
		got, wanted := api.OK, api.OK
		if r.below(12) == 0 {
			got, wanted = s.Checkpoint(), c.checkpoint()
		} else {
			batch := r.batch()
			got, wanted = s.Do(batch...), c.do(batch)
		}
		counts[wanted]++
		want(t, "the error", got, wanted)
		want(t, "the device", d.Lasting() == other.Lasting() && d.Waits() == other.Waits(), true)
		stands(t, "the log", s, c.log.Free(), c.log.Seq())
		want(t, "all keys and values", maps.Equal(has(s), c.table), true)
		want(t, "the keys in their order", slices.IsSorted(s.Keys("")), true)
		if r.below(20) == 0 || c.closed && r.below(2) == 0 {
			d.Up()
			other.Up()
			table := c.table
			s = opened(t, d, per)
			l, found, _ := wal.Open(other, per)
			lost := c.closed
			c = &chapter{log: l, table: replay(t, found)}
			want(t, "opened again", maps.Equal(has(s), c.table), true)
			want(t, "nothing is lost", lost || maps.Equal(c.table, table), true)
		}
	}
}

// replay returns what records make of an empty table.
func replay(t *testing.T, found []string) map[string]string {
	t.Helper()
	table := map[string]string{}
	for i, s := range found {
		if i == 0 && s == "" {
			continue
		}
		l, bad := Unpack(s)
		want(t, "Unpack", bad, api.OK)
		table = behind(table, l)
	}
	return table
}
