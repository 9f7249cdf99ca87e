package store

import (
	"math"
	"slices"
	"strings"
	"testing"

	"switchyard/api"
	"switchyard/block"
	"switchyard/frame"
	"switchyard/wal"
)

// unchanged checks that a call that is refused changes nothing: neither the
// device nor the store.
func unchanged(t *testing.T, what string, d *block.Device, s *Store, wanted api.Errno, call func() api.Errno) {
	t.Helper()
	before, free, seq := d.Lasting(), s.Free(), s.Seq()
	var pairs []string
	for _, key := range s.Keys("") {
		v, _ := s.Get(key)
		pairs = append(pairs, key, v)
	}
	want(t, what, call(), wanted)
	want(t, what+": nothing is written", d.Lasting() == before && d.Waits() == 0, true)
	holds(t, what, s, pairs...)
	stands(t, what, s, free, seq)
}

// TestDo: a batch is one record of the log, and is applied in its order.
func TestDo(t *testing.T) {
	d := block.New(60)
	s := opened(t, d, 10)
	log := []string{""}
	for i, c := range []struct {
		name  string
		l     []Change
		pairs []string
	}{
		{"one", []Change{set("a", "1")}, []string{"a", "1"}},
		{"none", nil, []string{"a", "1"}},
		{"several", []Change{set("c", "3"), set("b", "2")}, []string{"a", "1", "b", "2", "c", "3"}},
		{"set again", []Change{set("b", "4")}, []string{"a", "1", "b", "4", "c", "3"}},
		{"set to what it is", []Change{set("b", "4")}, []string{"a", "1", "b", "4", "c", "3"}},
		{"a deletion", []Change{gone("a")}, []string{"b", "4", "c", "3"}},
		{"a deletion of what is gone", []Change{gone("a")}, []string{"b", "4", "c", "3"}},
		{"a deletion of what never was", []Change{gone("d"), gone("")}, []string{"b", "4", "c", "3"}},
		{"set and deleted", []Change{set("d", "5"), gone("d")}, []string{"b", "4", "c", "3"}},
		{"deleted and set", []Change{gone("b"), set("b", "6")}, []string{"b", "6", "c", "3"}},
		{"several times", []Change{set("c", "7"), gone("c"), set("c", "8"), set("c", "9"), gone("b"), gone("b")}, []string{"c", "9"}},
		{"no bytes", []Change{set("", ""), set("c", "")}, []string{"", "", "c", ""}},
		{"a deletion of no bytes", []Change{gone("")}, []string{"c", ""}},
		{"a deletion with a value", []Change{{Key: "c", Value: "1", Gone: true}}, nil},
		{"a deletion with a value that is too long", []Change{{Key: "c", Value: xs(65537), Gone: true}}, nil},
		{"the longest key", []Change{set(xs(64), "v")}, []string{xs(64), "v"}},
		{"none again", nil, []string{xs(64), "v"}},
	} {
		want(t, c.name, s.Do(c.l...), api.OK)
		holds(t, c.name, s, c.pairs...)
		want(t, c.name+": Seq", s.Seq(), uint64(i+2))
		log = append(log, packed(c.l...))
		wantAll(t, c.name+": the log", records(t, d, 10), log...)
		again := opened(t, d, 10)
		holds(t, c.name+", opened again", again, c.pairs...)
		stands(t, c.name+", opened again", again, s.Free(), s.Seq())
	}
}

// TestDoErrors: those of Pack, which change nothing.
func TestDoErrors(t *testing.T) {
	d := block.New(60)
	s := opened(t, d, 10)
	want(t, "Do", s.Do(set("a", "1")), api.OK)
	tooMany := many(mostChanges + 1)
	for _, c := range []struct {
		name string
		l    []Change
		bad  api.Errno
	}{
		{"too many", tooMany, api.ErrMany},
		{"too many deletions", slices.Repeat([]Change{gone("a")}, mostChanges+1), api.ErrMany},
		{"too many, and a key that is too long", append(slices.Clone(tooMany), set(xs(65), "")), api.ErrMany},
		{"a key that is too long", []Change{gone("a"), set(xs(65), "")}, api.ErrLong},
		{"a deletion's key that is too long", []Change{gone("a"), gone(xs(65))}, api.ErrLong},
		{"a value that is too long", []Change{gone("a"), set("b", xs(65537))}, api.ErrLong},
		{"a value that is too long, and gone then", []Change{set("b", xs(65537)), gone("b")}, api.ErrLong},
		{"a value that is too long, ahead of one that finds no room", []Change{set("b", xs(65536)), set("b", xs(65537))}, api.ErrLong},
		{"no room", []Change{gone("a"), set("b", xs(65536))}, api.ErrFull},
	} {
		unchanged(t, c.name, d, s, c.bad, func() api.Errno { return s.Do(c.l...) })
	}
	want(t, "Do behind them", s.Do(set("b", "2")), api.OK)
	holds(t, "Do behind them", s, "a", "1", "b", "2")
}

// TestDoFull: where the log is full, a checkpoint is written of what there is
// to be.
func TestDoFull(t *testing.T) {
	d := block.New(15)
	s := opened(t, d, 5)
	want(t, "Do", s.Do(set("a", "1"), set("b", "2"), set("c", "3")), api.OK)
	for range 6 {
		want(t, "Do", s.Do(set("a", "1")), api.OK)
	}
	stands(t, "full", s, 1, 8)
	want(t, "Do of a full log", s.Do(set("d", "4"), gone("b"), set("a", "5"), set("e", "6"), gone("e")), api.OK)
	stands(t, "behind the checkpoint", s, 2, 9)
	holds(t, "behind the checkpoint", s, "a", "5", "c", "3", "d", "4")
	wantAll(t, "the log", records(t, d, 5), packed(set("a", "5"), set("c", "3"), set("d", "4")))
	holds(t, "opened again", opened(t, d, 5), "a", "5", "c", "3", "d", "4")
	want(t, "Do behind it", s.Do(gone("c")), api.OK)
	wantAll(t, "the log", records(t, d, 5), packed(set("a", "5"), set("c", "3"), set("d", "4")), packed(gone("c")))
	holds(t, "opened again", opened(t, d, 5), "a", "5", "d", "4")
}

// TestDoOfNothingFull: a batch of no changes is written as any other one.
func TestDoOfNothingFull(t *testing.T) {
	d := block.New(15)
	s := opened(t, d, 5)
	want(t, "Do", s.Do(set("a", "1")), api.OK)
	for range 6 {
		want(t, "Do of nothing", s.Do(), api.OK)
	}
	wantAll(t, "the log", records(t, d, 5), "", packed(set("a", "1")), "\x00", "\x00", "\x00", "\x00", "\x00", "\x00")
	want(t, "Do of nothing, of a full log", s.Do(), api.OK)
	wantAll(t, "the log", records(t, d, 5), packed(set("a", "1")))
	want(t, "Do", s.Do(gone("a")), api.OK)
	want(t, "Checkpoint", s.Checkpoint(), api.OK)
	wantAll(t, "the log", records(t, d, 5), "\x00")
	holds(t, "nothing", opened(t, d, 5))
}

// TestNoRoomForTheCheckpoint: the log is full, and what there is to be is too
// long for a segment.
func TestNoRoomForTheCheckpoint(t *testing.T) {
	d := block.New(15)
	s := opened(t, d, 5)
	// A segment has room for a record of 235 bytes.
	for _, c := range []Change{set("a", xs(100)), set("b", xs(100)), set("c", xs(22)), gone("c")} {
		want(t, "Do", s.Do(c), api.OK)
	}
	stands(t, "full", s, 1, 5)
	for range 2 {
		unchanged(t, "too long by one", d, s, api.ErrFull, func() api.Errno { return s.Do(set("c", xs(23))) })
		unchanged(t, "too long by more", d, s, api.ErrFull, func() api.Errno { return s.Do(set("c", xs(22)), set("", "")) })
		unchanged(t, "far too long", d, s, api.ErrFull, func() api.Errno { return s.Do(set("d", xs(65536))) })
	}
	want(t, "as long as may be", s.Do(set("c", xs(22))), api.OK)
	holds(t, "as long as may be", s, "a", xs(100), "b", xs(100), "c", xs(22))
	stands(t, "as long as may be", s, 2, 6)
	all := packed(set("a", xs(100)), set("b", xs(100)), set("c", xs(22)))
	want(t, "as long as may be", len(all), 235)
	wantAll(t, "the log", records(t, d, 5), all)
}

// TestCheckpointTooLong: what there is is too long for a segment, so there is
// no Checkpoint of it, until something is deleted.
func TestCheckpointTooLong(t *testing.T) {
	d := block.New(20)
	s := opened(t, d, 5)
	for _, key := range []string{"a", "b", "c"} {
		want(t, "Do", s.Do(set(key, xs(100))), api.OK)
	}
	for range 2 {
		unchanged(t, "Checkpoint", d, s, api.ErrFull, s.Checkpoint)
	}
	want(t, "Do", s.Do(gone("b")), api.OK)
	want(t, "Checkpoint", s.Checkpoint(), api.OK)
	wantAll(t, "the log", records(t, d, 5), packed(set("a", xs(100)), set("c", xs(100))))
	holds(t, "Checkpoint", s, "a", xs(100), "c", xs(100))
}

// TestRecordTooLong: a batch that is too long for a segment is applied if what
// there is to be isn't.
func TestRecordTooLong(t *testing.T) {
	d := block.New(30)
	s := opened(t, d, 5)
	want(t, "Do", s.Do(set("b", "1")), api.OK)
	stands(t, "Do", s, 5, 2)
	want(t, "Do of a long batch", s.Do(set("a", xs(65536)), gone("b"), set("a", "2"), set("c", "3")), api.OK)
	stands(t, "Do of a long batch", s, 5, 3)
	wantAll(t, "the log", records(t, d, 5), packed(set("a", "2"), set("c", "3")))
	holds(t, "Do of a long batch", s, "a", "2", "c", "3")
	unchanged(t, "one that leaves too much", d, s, api.ErrFull, func() api.Errno {
		return s.Do(gone("a"), set("d", xs(65536)), set("d", xs(300)), gone("c"))
	})
	// Longer than any record, of any device, may be.
	l := slices.Repeat([]Change{set("d", xs(65536))}, 20)
	unchanged(t, "more than a record may be", d, s, api.ErrFull, func() api.Errno { return s.Do(l...) })
	want(t, "more than a record may be, but gone", s.Do(append(l, gone("d"))...), api.OK)
	wantAll(t, "the log", records(t, d, 5), packed(set("a", "2"), set("c", "3")))
	stands(t, "more than a record may be, but gone", s, 5, 4)
}

func TestLimits(t *testing.T) {
	d := block.New(api.MaxSectors)
	s := opened(t, d, 1365)
	want(t, "the longest value", s.Do(set("a", xs(65536))), api.OK)
	holds(t, "the longest value", opened(t, d, 1365), "a", xs(65536))
	want(t, "as many as there may be", s.Do(slices.Repeat([]Change{set("a", "1")}, mostChanges)...), api.OK)
	holds(t, "as many as there may be", opened(t, d, 1365), "a", "1")
}

// TestManyKeys: where there are more keys than a batch may have, there is no
// checkpoint, but changes are appended as long as there is room.
func TestManyKeys(t *testing.T) {
	d := block.New(api.MaxSectors)
	s := opened(t, d, 1365)
	want(t, "as many as a batch may have", s.Do(many(mostChanges)...), api.OK)
	want(t, "Checkpoint", s.Checkpoint(), api.OK)
	want(t, "one key more", s.Do(set("one more", "")), api.OK)
	want(t, "all of them", len(s.Keys("")), mostChanges+1)
	unchanged(t, "Checkpoint of too many", d, s, api.ErrFull, s.Checkpoint)
	tooLong := slices.Repeat([]Change{set("a", xs(65536))}, 2)
	unchanged(t, "a record that is too long", d, s, api.ErrFull, func() api.Errno {
		return s.Do(append(tooLong, gone("a"))...)
	})
	want(t, "a short one", s.Do(set("one more", "1")), api.OK)
	want(t, "one that is too long, and leaves as many as a batch may have", s.Do(append(tooLong, gone("a"), gone("one more"))...), api.OK)
	want(t, "all of them", len(s.Keys("")), mostChanges)
	all, _ := Pack(many(mostChanges)...)
	wantAll(t, "the log", records(t, d, 1365), all)
	want(t, "opened again", slices.Equal(opened(t, d, 1365).Keys(""), s.Keys("")), true)
}

func TestCheckpoint(t *testing.T) {
	d := block.New(30)
	s := opened(t, d, 5)
	want(t, "Checkpoint of nothing", s.Checkpoint(), api.OK)
	wantAll(t, "the log", records(t, d, 5), "\x00")
	stands(t, "Checkpoint of nothing", s, 5, 2)
	want(t, "Do", s.Do(set("b", "1"), set("a", "2")), api.OK)
	want(t, "Do", s.Do(set("c", xs(120))), api.OK)
	want(t, "Do", s.Do(gone("b"), set("\xff", ""), set("", "3")), api.OK)
	stands(t, "Do", s, 4, 5)
	all := packed(set("", "3"), set("a", "2"), set("c", xs(120)), set("\xff", ""))
	for i := range uint64(8) {
		want(t, "Checkpoint", s.Checkpoint(), api.OK)
		wantAll(t, "the log", records(t, d, 5), all)
		stands(t, "Checkpoint", s, 5, 6+i)
		holds(t, "Checkpoint", s, "", "3", "a", "2", "c", xs(120), "\xff", "")
		holds(t, "opened again", opened(t, d, 5), "", "3", "a", "2", "c", xs(120), "\xff", "")
	}
	want(t, "Do behind it", s.Do(gone("c")), api.OK)
	wantAll(t, "the log", records(t, d, 5), all, packed(gone("c")))
}

// TestNoSerial: a log that has the greatest serial takes neither an Append that
// starts a segment nor a Checkpoint.
func TestNoSerial(t *testing.T) {
	head, _ := frame.PutHead(frame.Head{Serial: math.MaxUint32, Base: math.MaxUint32, Seq: 7})
	unit, _ := frame.Put(frame.Unit{Serial: math.MaxUint32, Seq: 7, Kind: 1, Body: packed(set("a", "1"))})
	d := block.New(30)
	d.Fill(head + unit)
	s := opened(t, d, 5)
	holds(t, "Open", s, "a", "1")
	stands(t, "Open", s, 5, 8)
	for range 2 {
		unchanged(t, "Do", d, s, api.ErrFull, func() api.Errno { return s.Do(set("b", "2")) })
		unchanged(t, "Do of nothing", d, s, api.ErrFull, func() api.Errno { return s.Do() })
		unchanged(t, "Do of too much", d, s, api.ErrFull, func() api.Errno { return s.Do(set("b", xs(1000))) })
		unchanged(t, "Do of what is too long", d, s, api.ErrLong, func() api.Errno { return s.Do(set(xs(65), "")) })
		unchanged(t, "Checkpoint", d, s, api.ErrFull, s.Checkpoint)
	}
}

// TestNoSegment: all segments belong to the log, as no Append leaves them.
func TestNoSegment(t *testing.T) {
	d := block.New(15)
	fill := ""
	for i := range uint32(3) {
		head, _ := frame.PutHead(frame.Head{Serial: i + 1, Base: 1, Prev: i, Seq: uint64(i)})
		unit, _ := frame.Put(frame.Unit{Serial: i + 1, Seq: uint64(i), Kind: min(int(i)+1, 2), Body: packed(set("a", string('0'+rune(i))))})
		fill += head + unit + strings.Repeat("\x00", 3*api.Sector)
	}
	d.Fill(fill)
	s := opened(t, d, 5)
	holds(t, "Open", s, "a", "2")
	stands(t, "Open", s, 0, 3)
	for range 2 {
		unchanged(t, "Do", d, s, api.ErrFull, func() api.Errno { return s.Do(set("a", "3")) })
		unchanged(t, "Checkpoint", d, s, api.ErrFull, s.Checkpoint)
	}
}

// closes checks that an error of the device in a call closes the store, which
// stays as it was.
func closes(t *testing.T, what string, ready func() (*block.Device, *Store), call func(s *Store) api.Errno) {
	t.Helper()
	for n := 1; ; n++ {
		d, s := ready()
		keys, free, seq := s.Keys(""), s.Free(), s.Seq()
		log := records(t, d, 5)
		d.Fuse(n, lost)
		bad := call(s)
		if bad == api.OK {
			want(t, what+": several calls of the device", n > 2, true)
			return
		}
		if bad != api.ErrPower {
			t.Fatalf("%s: the device's error: %v", what, bad)
		}
		for range 2 {
			want(t, what+": Do", s.Do(set("a", "9")), api.ErrClosed)
			want(t, what+": Do of nothing", s.Do(), api.ErrClosed)
			want(t, what+": Do of too many", s.Do(many(mostChanges+1)...), api.ErrClosed)
			want(t, what+": Do of what is too long", s.Do(set(xs(65), "")), api.ErrClosed)
			want(t, what+": Do of too much", s.Do(set("a", xs(65536))), api.ErrClosed)
			want(t, what+": Checkpoint", s.Checkpoint(), api.ErrClosed)
			wantAll(t, what+": Keys", s.Keys(""), keys...)
			v, found := s.Get("a")
			want(t, what+": Get", found && v == "1", true)
			_, found = s.Get("new")
			want(t, what+": Get of what is new", found, false)
			stands(t, what, s, free, seq)
			d.Up()
		}
		want(t, what+": nothing is written", d.Waits(), 0)
		wantAll(t, what+": the log", records(t, d, 5), log...)
		s = opened(t, d, 5)
		wantAll(t, what+": opened again", s.Keys(""), keys...)
		want(t, what+": opened again", s.Do(set("a", "9")), api.OK)
	}
}

func TestDeviceErrors(t *testing.T) {
	ready := func(more int) func() (*block.Device, *Store) {
		return func() (*block.Device, *Store) {
			d := block.New(15)
			s := opened(t, d, 5)
			want(t, "Do", s.Do(set("b", "2"), set("a", "1")), api.OK)
			for range more {
				want(t, "Do", s.Do(gone("new")), api.OK)
			}
			return d, s
		}
	}
	short := func(s *Store) api.Errno { return s.Do(set("new", "3"), gone("a")) }
	closes(t, "Do", ready(0), func(s *Store) api.Errno { return s.Do(set("new", xs(60)), gone("a")) })
	closes(t, "Do that starts a segment", ready(2), short)
	closes(t, "Do of a full log", ready(6), short)
	closes(t, "Do of a long batch", ready(1), func(s *Store) api.Errno {
		return s.Do(set("a", xs(1000)), set("a", "3"), set("new", ""))
	})
	closes(t, "Checkpoint", ready(3), (*Store).Checkpoint)
}

// TestNoPower: the device has no power already. What doesn't come as far as the
// device closes nothing.
func TestNoPower(t *testing.T) {
	d := block.New(15)
	s := opened(t, d, 5)
	want(t, "Do", s.Do(set("a", "1")), api.OK)
	down := func() { d.Fuse(1, lost); d.Flush() }
	down()
	for range 2 {
		want(t, "too many", s.Do(many(mostChanges+1)...), api.ErrMany)
		want(t, "too long", s.Do(set(xs(65), "")), api.ErrLong)
		want(t, "too much", s.Do(set("b", xs(1000))), api.ErrFull)
	}
	d.Up()
	want(t, "Do", s.Do(set("b", "2")), api.OK)
	down()
	want(t, "Do without power", s.Do(set("c", "3")), api.ErrPower)
	d.Up()
	want(t, "Do, closed", s.Do(set("c", "3")), api.ErrClosed)
	holds(t, "closed", s, "a", "1", "b", "2")
	s = opened(t, d, 5)
	down()
	want(t, "Checkpoint without power", s.Checkpoint(), api.ErrPower)
	d.Up()
	want(t, "Checkpoint, closed", s.Checkpoint(), api.ErrClosed)
	want(t, "Do of nothing, closed", s.Do(), api.ErrClosed)
	holds(t, "opened again", opened(t, d, 5), "a", "1", "b", "2")
}

// TestLogsAlike: a store's log is that to which the same records were appended.
func TestLogsAlike(t *testing.T) {
	d, other := block.New(30), block.New(30)
	s := opened(t, d, 5)
	l, _, _ := wal.Open(other, 5)
	want(t, "Open", d.Lasting() == other.Lasting(), true)
	for _, changes := range batches()[:7] {
		want(t, "Do", s.Do(changes...), l.Append(packed(changes...)))
		want(t, "Do", d.Lasting() == other.Lasting(), true)
	}
}
