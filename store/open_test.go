package store

import (
	"math"
	"strings"
	"testing"

	"switchyard/api"
	"switchyard/block"
	"switchyard/wal"
)

// logged returns a device with a log of these records, of segments of so many
// sectors.
func logged(t *testing.T, per int, first string, more ...string) *block.Device {
	t.Helper()
	d := block.New(6 * per)
	l, _, bad := wal.Open(d, per)
	want(t, "the log's Open", bad, api.OK)
	if first != "" {
		want(t, "the log's Checkpoint", l.Checkpoint(first), api.OK)
	}
	want(t, "the log's Append", l.Append(more...), api.OK)
	return d
}

// off returns a device that has no power.
func off(sectors int) *block.Device {
	d := block.New(sectors)
	d.Fuse(1, lost)
	d.Flush()
	return d
}

// TestOpenErrors: the log's errors, in their order.
func TestOpenErrors(t *testing.T) {
	wrong := logged(t, 5, "\x00\x00")
	wrong.Fuse(1, lost)
	wrong.Flush()
	for _, c := range []struct {
		name string
		d    *block.Device
		per  int
		bad  api.Errno
	}{
		{"no device", nil, 5, api.ErrNil},
		{"no device, and per 1", nil, 1, api.ErrNil},
		{"per 1", block.New(30), 1, api.ErrArg},
		{"per 0", block.New(30), 0, api.ErrArg},
		{"the least per", block.New(30), math.MinInt, api.ErrArg},
		{"the greatest per", block.New(30), math.MaxInt, api.ErrArg},
		{"no sectors", block.New(0), 2, api.ErrArg},
		{"two segments", block.New(14), 5, api.ErrArg},
		{"three segments", block.New(15), 5, api.OK},
		{"the least device", block.New(6), 2, api.OK},
		{"the greatest device", block.New(api.MaxSectors), 1365, api.OK},
		{"no power", off(30), 5, api.ErrPower},
		{"no power, and per 1", off(30), 1, api.ErrArg},
		{"no power, and no encoding", wrong, 5, api.ErrPower},
	} {
		s, bad := Open(c.d, c.per)
		want(t, c.name, bad, c.bad)
		want(t, c.name+": a store", s != nil, c.bad == api.OK)
	}
}

// TestOpenWithoutPower: the power is lost while a store is begun, which is
// begun again then.
func TestOpenWithoutPower(t *testing.T) {
	for n := 1; ; n++ {
		d := block.New(30)
		d.Fuse(n, lost)
		s, bad := Open(d, 5)
		if bad == api.OK {
			want(t, "several calls of the device", n > 5, true)
			break
		}
		if bad != api.ErrPower {
			t.Fatalf("the device's error: %v", bad)
		}
		want(t, "nothing beside it", s == nil, true)
		d.Up()
		holds(t, "opened again", opened(t, d, 5))
	}
}

func TestOpenNew(t *testing.T) {
	d := block.New(30)
	s := opened(t, d, 5)
	holds(t, "new", s)
	stands(t, "new", s, 5, 1)
	wantAll(t, "its log", records(t, d, 5), "")
	before := d.Lasting()
	s = opened(t, d, 5)
	holds(t, "opened again", s)
	stands(t, "opened again", s, 5, 1)
	want(t, "nothing is written", d.Lasting() == before && d.Waits() == 0, true)
}

// TestOpenRecords: all records are applied in their order.
func TestOpenRecords(t *testing.T) {
	ab := packed(set("a", "1"), set("b", "2"))
	for _, c := range []struct {
		name  string
		first string
		more  []string
		pairs []string
	}{
		{"an empty one", "", nil, nil},
		{"one of no changes", "\x00", nil, nil},
		{"one", ab, nil, []string{"a", "1", "b", "2"}},
		{"an empty one, and one", "", []string{ab}, []string{"a", "1", "b", "2"}},
		{"some of no changes", "\x00", []string{"\x00", ab, "\x00", "\x00"}, []string{"a", "1", "b", "2"}},
		{"one twice", ab, []string{ab}, []string{"a", "1", "b", "2"}},
		{"set again", ab, []string{packed(set("b", "3"), set("c", "4"))}, []string{"a", "1", "b", "3", "c", "4"}},
		{"deleted", ab, []string{packed(gone("a"))}, []string{"b", "2"}},
		{"deleted and set again", ab, []string{packed(gone("a"), gone("b")), packed(set("a", "5"))}, []string{"a", "5"}},
		{"set and deleted again", "", []string{packed(gone("a")), ab, packed(gone("b")), packed(set("b", "6")), packed(gone("b"))}, []string{"a", "1"}},
		{"within one", packed(set("a", "1"), gone("a"), set("b", "1"), set("b", "2"), set("c", ""), gone("c"), set("c", "3")), nil, []string{"b", "2", "c", "3"}},
		{"the deletion of what there isn't", packed(gone("c"), gone("")), []string{ab}, []string{"a", "1", "b", "2"}},
		{"all deleted", ab, []string{packed(gone("b"), gone("a"))}, nil},
		{"empty ones", packed(set("", "")), []string{packed(set("a", ""))}, []string{"", "", "a", ""}},
		{"long ones", packed(set(xs(64), xs(127))), nil, []string{xs(64), xs(127)}},
	} {
		d := logged(t, 10, c.first, c.more...)
		l, _, _ := wal.Open(d, 10)
		before := d.Lasting()
		s := opened(t, d, 10)
		holds(t, c.name, s, c.pairs...)
		stands(t, c.name, s, l.Free(), l.Seq())
		want(t, c.name+": nothing is written", d.Lasting() == before && d.Waits() == 0, true)
	}
}

// TestOpenForm: a record that is no encoding of a batch, the first one of all
// or a later one. An empty one is none, but as the first one.
func TestOpenForm(t *testing.T) {
	ab := packed(set("a", "1"), set("b", "2"))
	wrong := []string{
		"\x01", "\x80", "\x80\x00", "\x81\x40", "\x01\x02\x01a", "\x00\x00", "x",
		ab[:len(ab)-1], ab + "\x00", ab + ab, "\x01\x01\x01a\x00",
		"\x01\x00\x41" + xs(65) + "\x00", strings.Repeat("\xff", 10),
	}
	forms := func(name string, d *block.Device) {
		t.Helper()
		before := d.Lasting()
		for range 2 {
			s, bad := Open(d, 10)
			want(t, name, bad, api.ErrForm)
			want(t, name+": nothing beside it", s == nil, true)
		}
		want(t, name+": nothing is written", d.Lasting() == before && d.Waits() == 0, true)
	}
	for _, record := range wrong {
		forms("the first one", logged(t, 10, record))
		forms("the first one of several", logged(t, 10, record, ab, ab))
		forms("the second one", logged(t, 10, ab, record))
		forms("the second one, behind an empty one", logged(t, 10, "", record))
		forms("the last one", logged(t, 10, "", ab, ab, record))
		forms("one in the middle", logged(t, 10, ab, ab, record, ab))
		forms("two", logged(t, 10, ab, record, record))
	}
	forms("an empty second one", logged(t, 10, ab, ""))
	forms("an empty second one, behind an empty one", logged(t, 10, "", ""))
	forms("an empty last one", logged(t, 10, "", ab, ab, ""))
}

// TestOpenLimits: a record of as much as there may be, and of one more.
func TestOpenLimits(t *testing.T) {
	one := func(record string) (*Store, api.Errno) {
		d := block.New(api.MaxSectors)
		l, _, _ := wal.Open(d, 1365)
		want(t, "the log's Append", l.Append(record), api.OK)
		return Open(d, 1365)
	}
	s, bad := one("\x01\x00\x01a\x80\x80\x04" + xs(65536))
	want(t, "the longest value", bad, api.OK)
	holds(t, "the longest value", s, "a", xs(65536))
	s, bad = one("\x01\x00\x40" + xs(64) + "\x00")
	want(t, "the longest key", bad, api.OK)
	holds(t, "the longest key", s, xs(64), "")
	s, bad = one("\x80\x40" + strings.Repeat("\x00\x00\x01a", 8192))
	want(t, "as many as there may be", bad, api.OK)
	holds(t, "as many as there may be", s, "", "a")
	for _, record := range []string{
		"\x01\x00\x01a\x81\x80\x04" + xs(65537),
		"\x01\x00\x41" + xs(65) + "\x00",
		"\x81\x40" + strings.Repeat("\x00\x00\x01a", 8193),
	} {
		s, bad = one(record)
		want(t, "one more", bad, api.ErrForm)
		want(t, "nothing beside it", s == nil, true)
	}
}
