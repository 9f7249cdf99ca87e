package store

import (
	"maps"
	"slices"
	"testing"

	"switchyard/api"
	"switchyard/block"
)

// act is a Do of some changes, or a Checkpoint.
type act struct {
	whole bool
	l     []Change
}

func (a act) do(s *Store) api.Errno {
	if a.whole {
		return s.Checkpoint()
	}
	return s.Do(a.l...)
}

// acts are such as write to the current segment, start one, and write a
// checkpoint since the log is full or the batch is too long.
func acts() []act {
	return []act{
		{false, nil},
		{false, []Change{set("a", "3")}},
		{false, []Change{gone("a"), set("c", "3"), set("b", "")}},
		{false, []Change{set("c", xs(50)), gone("b"), set("d", xs(60))}},
		{false, []Change{set("a", xs(1000)), set("a", xs(80)), gone("b"), set("e", "")}},
		{true, nil},
	}
}

// crashes returns losses of power: each choice of up to five writes, and others
// of more; with each sector torn in several places, and with none.
func crashes() []api.Crash {
	keeps := []uint64{1<<6 - 1<<3, 1<<12 - 1, 0x5555, 0xaaaa, 1<<64 - 1}
	for k := range uint64(1 << 5) {
		keeps = append(keeps, k)
	}
	var out []api.Crash
	for _, k := range keeps {
		out = append(out, api.Crash{Keep: k, Torn: -1})
		for at := range 8 {
			out = append(out, api.Crash{Keep: k, Torn: at, At: (at*17 + int(k)*5) % 65})
		}
	}
	return out
}

// noisy returns a device of sectors that are full, and neither headers nor units.
func noisy(sectors int) *block.Device {
	d := block.New(sectors)
	d.Fill(string(slices.Repeat([]byte{0xa5}, sectors*api.Sector)))
	return d
}

// TestPowerLost: the power is lost at each call of the device during an act, in
// every way. Behind it there is all that was acknowledged, and the act in
// progress completely or not at all; and the store goes on.
func TestPowerLost(t *testing.T) {
	for _, a := range acts() {
		for _, ahead := range []int{0, 2, 5, 6} { // the log is full behind six
			for n := 1; lostAt(t, a, ahead, n); n++ {
			}
			if t.Failed() {
				return
			}
		}
	}
}

// lostAt tells whether the power was lost at the nth call of the device.
func lostAt(t *testing.T, a act, ahead, n int) bool {
	t.Helper()
	for _, c := range crashes() {
		d := noisy(3 * 5)
		s := opened(t, d, 5)
		want(t, "Do", s.Do(set("a", "1"), set("b", "2")), api.OK)
		for range ahead {
			want(t, "Do", s.Do(set("b", "2")), api.OK)
		}
		before := has(s)
		after := behind(before, a.l)
		d.Fuse(n, c)
		bad := a.do(s)
		if bad == api.OK {
			return false
		}
		if bad != api.ErrPower {
			t.Fatalf("the device's error: %v", bad)
		}
		want(t, "the store is as it was", maps.Equal(has(s), before), true)
		d.Up()
		goesOn(t, d, before, after)
	}
	return true
}

// goesOn checks that a store has one of two tables, and that it takes changes.
func goesOn(t *testing.T, d *block.Device, before, after map[string]string) {
	t.Helper()
	s := opened(t, d, 5)
	table := has(s)
	if !maps.Equal(table, before) && !maps.Equal(table, after) {
		t.Fatalf("%q is neither %q nor %q", table, before, after)
	}
	for _, l := range [][]Change{{set("more", "1")}, {gone("a"), set("c", "9")}} {
		want(t, "Do behind it", s.Do(l...), api.OK)
		table = behind(table, l)
		want(t, "Do behind it", maps.Equal(has(s), table), true)
		want(t, "opened again", maps.Equal(has(opened(t, d, 5)), table), true)
	}
	want(t, "Checkpoint behind it", s.Checkpoint(), api.OK)
	want(t, "opened again", maps.Equal(has(opened(t, d, 5)), table), true)
}

// TestPowerLostInOpen: the power is lost while a store is begun, in every way.
func TestPowerLostInOpen(t *testing.T) {
	for n := 1; ; n++ {
		for _, c := range crashes() {
			d := noisy(3 * 5)
			d.Fuse(n, c)
			s, bad := Open(d, 5)
			if bad == api.OK {
				want(t, "several calls of the device", n > 5, true)
				return
			}
			if bad != api.ErrPower {
				t.Fatalf("the device's error: %v", bad)
			}
			want(t, "nothing beside it", s == nil, true)
			d.Up()
			goesOn(t, d, nil, nil)
		}
	}
}

// TestPowerLostAgain: a store lives through many losses of power, each of which
// finds what the others have left.
func TestPowerLostAgain(t *testing.T) {
	r := dice(2)
	d := noisy(4 * 6)
	s := opened(t, d, 6)
	table := map[string]string{}
	lost, completed := 0, 0
	for range 8000 {
		if r.below(3) == 0 {
			d.Fuse(1+r.below(14), api.Crash{Keep: uint64(r.below(1 << 30)), Torn: r.below(16) - 5, At: r.below(65)})
		}
		a := act{r.below(8) == 0, nil}
		for !a.whole && r.below(3) > 0 {
			a.l = append(a.l, Change{Key: string(rune('a' + r.below(5))), Value: xs(r.below(60)), Gone: r.below(3) == 0})
		}
		after := behind(table, a.l)
		switch bad := a.do(s); bad {
		case api.OK:
			table = after
		case api.ErrFull:
		case api.ErrPower:
			lost++
			d.Up()
			s = opened(t, d, 6)
			found := has(s)
			if !maps.Equal(found, table) && !maps.Equal(found, after) {
				t.Fatalf("%q is neither %q nor %q", found, table, after)
			}
			if !maps.Equal(found, table) {
				completed++
			}
			table = found
		default:
			t.Fatalf("%v", bad)
		}
		if !maps.Equal(has(s), table) {
			t.Fatalf("%q isn't %q", has(s), table)
		}
	}
	want(t, "many losses", lost > 500, true)
	want(t, "some of what was in progress is there", completed > 50, true)
}
