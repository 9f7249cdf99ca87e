package wal

import (
	"math"
	"slices"
	"strconv"
	"strings"
	"testing"

	"switchyard/api"
	"switchyard/block"
	"switchyard/frame"
)

func want[T comparable](t *testing.T, what string, got, wanted T) {
	t.Helper()
	if got != wanted {
		t.Errorf("%s: got %#v, want %#v", what, got, wanted)
	}
}

func wantRecords(t *testing.T, what string, got []string, wanted ...string) {
	t.Helper()
	if !slices.Equal(got, wanted) {
		t.Errorf("%s: got %q, want %q", what, got, wanted)
	}
}

// wantPlace checks what Free, Seq and Serial answer.
func wantPlace(t *testing.T, what string, l *Log, free int, seq uint64, serial int) {
	t.Helper()
	want(t, what+": Free", l.Free(), free)
	want(t, what+": Seq", l.Seq(), seq)
	want(t, what+": Serial", l.Serial(), serial)
}

// lost is a loss of power at which no write lasts; kept is one at which all do.
var (
	lost = api.Crash{Torn: -1}
	kept = api.Crash{Keep: math.MaxUint64, Torn: -1}
)

func zeroSectors(n int) string { return strings.Repeat("\x00", n*api.Sector) }

// noisy returns a device of sectors that are full, and neither headers nor units.
func noisy(sectors int) *block.Device {
	d := block.New(sectors)
	d.Fill(strings.Repeat("\xa5", sectors*api.Sector))
	return d
}

func opened(t *testing.T, d *block.Device, per int) *Log {
	t.Helper()
	l, _, bad := Open(d, per)
	if bad != api.OK || l == nil {
		t.Fatalf("Open: %v", bad)
	}
	return l
}

// sector returns the durable bytes of a sector.
func sector(d *block.Device, i int) string {
	return d.Lasting()[i*api.Sector : (i+1)*api.Sector]
}

func unit(serial uint32, seq uint64, kind int, body string) string {
	s, bad := frame.Put(frame.Unit{Serial: serial, Seq: seq, Kind: kind, Body: body})
	if bad != api.OK {
		panic(bad)
	}
	return s
}

func head(serial, base, prev uint32, seq uint64) string {
	s, bad := frame.PutHead(frame.Head{Serial: serial, Base: base, Prev: prev, Seq: seq})
	if bad != api.OK {
		panic(bad)
	}
	return s
}

// calls returns what a call does to a device, in order: a sector that is
// written by its number, a flush by the letter f. What is written has to be
// another thing than what was there.
func calls(t *testing.T, begin func() *block.Device, do func(d *block.Device) func() api.Errno) string {
	t.Helper()
	out := ""
	for n := 1; ; n++ {
		d := begin()
		call := do(d)
		old := d.Lasting()
		if n > 1 {
			d.Fuse(n-1, kept)
			call()
			old = d.Lasting()
			d = begin()
			call = do(d)
		}
		d.Fuse(n, kept)
		bad := call()
		if bad == api.OK {
			return strings.TrimSpace(out)
		}
		if bad != api.ErrPower {
			t.Fatalf("call %d: %v", n, bad)
		}
		out += " " + changed(old, d.Lasting())
	}
}

func changed(old, now string) string {
	for i := range len(old) / api.Sector {
		if old[i*api.Sector:(i+1)*api.Sector] != now[i*api.Sector:(i+1)*api.Sector] {
			return strconv.Itoa(i)
		}
	}
	return "f"
}

// callsOf is calls, of a method of a log that is begun on a noisy device.
func callsOf(t *testing.T, sectors, per int, ready func(l *Log), do func(l *Log) api.Errno) string {
	t.Helper()
	return calls(t, func() *block.Device { return noisy(sectors) }, func(d *block.Device) func() api.Errno {
		l := opened(t, d, per)
		ready(l)
		return func() api.Errno { return do(l) }
	})
}

func TestExample(t *testing.T) {
	begin := func() *block.Device { return noisy(9) }
	want(t, "Open", calls(t, begin, func(d *block.Device) func() api.Errno {
		return func() api.Errno { _, _, bad := Open(d, 3); return bad }
	}), "0 1 2 f 0 f 1 f")
	for i, wanted := range []string{"2 f", "3 4 5 f 3 f 4 f", "5 f"} {
		ready := func(l *Log) {
			for range i {
				l.Append("x")
			}
		}
		want(t, "Append", callsOf(t, 9, 3, ready, func(l *Log) api.Errno { return l.Append("a") }), wanted)
	}
	d := block.New(9)
	l, records, bad := Open(d, 3)
	want(t, "Open", bad, api.OK)
	wantRecords(t, "Open", records, "")
	wantPlace(t, "Open", l, 2, 1, 1)
	want(t, "a header", sector(d, 0), head(1, 1, 0, 0))
	want(t, "a unit", sector(d, 1), unit(1, 0, 1, ""))
	want(t, "zeros", sector(d, 2), zeroSectors(1))
	want(t, "a", l.Append("a"), api.OK)
	want(t, "a's unit", sector(d, 2), unit(1, 1, 2, "a"))
	wantPlace(t, "a", l, 2, 2, 1)
	want(t, "b", l.Append("b"), api.OK)
	want(t, "b's header", sector(d, 3), head(2, 1, 1, 2))
	want(t, "b's unit", sector(d, 4), unit(2, 2, 2, "b"))
	wantPlace(t, "b", l, 1, 3, 2)
	want(t, "c", l.Append("c"), api.OK)
	want(t, "c's unit", sector(d, 5), unit(2, 3, 2, "c"))
	before := d.Lasting()
	want(t, "d", l.Append("d"), api.ErrFull)
	want(t, "nothing is written", d.Lasting() == before && d.Waits() == 0, true)
	wantPlace(t, "d", l, 1, 4, 2)
	l, records, bad = Open(d, 3)
	want(t, "Open again", bad, api.OK)
	wantRecords(t, "Open again", records, "", "a", "b", "c")
	wantPlace(t, "Open again", l, 1, 4, 2)
	want(t, "nothing is written by Open", d.Lasting() == before && d.Waits() == 0, true)
}

func TestOpenErrors(t *testing.T) {
	off := block.New(9)
	off.Fuse(1, lost)
	off.Flush()
	for _, c := range []struct {
		name string
		d    *block.Device
		per  int
		bad  api.Errno
	}{
		{"no device", nil, 3, api.ErrNil},
		{"no device, per too small", nil, 0, api.ErrNil},
		{"per 1", block.New(9), 1, api.ErrArg},
		{"per 0", block.New(9), 0, api.ErrArg},
		{"per below 0", block.New(9), -3, api.ErrArg},
		{"the least per", block.New(9), math.MinInt, api.ErrArg},
		{"the greatest per", block.New(9), math.MaxInt, api.ErrArg},
		{"no sectors", block.New(0), 2, api.ErrArg},
		{"5 sectors of 2", block.New(5), 2, api.ErrArg},
		{"6 sectors of 2", block.New(6), 2, api.OK},
		{"8 sectors of 3", block.New(8), 3, api.ErrArg},
		{"9 sectors of 4", block.New(9), 4, api.ErrArg},
		{"the greatest device", block.New(api.MaxSectors), api.MaxSectors / 3, api.OK},
		{"the greatest device, and per one greater", block.New(api.MaxSectors), api.MaxSectors/3 + 1, api.ErrArg},
		{"no power", off, 3, api.ErrPower},
		{"no power, per too small", off, 1, api.ErrArg},
		{"no power, too few", off, 4, api.ErrArg},
	} {
		l, records, bad := Open(c.d, c.per)
		want(t, c.name, bad, c.bad)
		want(t, c.name+": a log", l != nil, c.bad == api.OK)
		want(t, c.name+": records", len(records) > 0, c.bad == api.OK)
	}
}

// TestSectorsLeft: the sectors behind the last whole segment aren't the log's.
func TestSectorsLeft(t *testing.T) {
	d := noisy(11)
	l := opened(t, d, 3)
	wantPlace(t, "three segments", l, 2, 1, 1)
	for range 5 {
		l.Append("x")
		l.Checkpoint("y")
	}
	want(t, "sector 9", sector(d, 9)+sector(d, 10), strings.Repeat("\xa5", 128))
}

func TestNilLog(t *testing.T) {
	var l *Log
	want(t, "Append", l.Append("a"), api.ErrNil)
	want(t, "Append of nothing", l.Append(), api.ErrNil)
	want(t, "Append of a long body", l.Append(strings.Repeat("x", api.MaxUnit+1)), api.ErrNil)
	want(t, "Checkpoint", l.Checkpoint("a"), api.ErrNil)
	wantPlace(t, "nil", l, 0, 0, 0)
}

func TestCheckpoint(t *testing.T) {
	d := block.New(12)
	l := opened(t, d, 3)
	l.Append("a", "b", "c")
	wantPlace(t, "behind Append", l, 2, 4, 2)
	want(t, "Checkpoint", l.Checkpoint("now"), api.OK)
	wantPlace(t, "Checkpoint", l, 3, 5, 3)
	// The free segment with the smallest number is the third one.
	want(t, "its header", sector(d, 6), head(3, 3, 0, 4))
	want(t, "its unit", sector(d, 7), unit(3, 4, 1, "now"))
	want(t, "an Append behind it", l.Append("d"), api.OK)
	want(t, "is in its segment", sector(d, 8), unit(3, 5, 2, "d"))
	want(t, "one more Append", l.Append("e"), api.OK)
	want(t, "starts the first one", sector(d, 0), head(4, 3, 3, 6))
	want(t, "what was there is erased", sector(d, 2), zeroSectors(1))
	l, records, _ := Open(d, 3)
	wantRecords(t, "Open", records, "now", "d", "e")
	wantPlace(t, "Open", l, 2, 7, 4)
	want(t, "a Checkpoint behind Open", l.Checkpoint("again"), api.OK)
	want(t, "its header", sector(d, 3), head(5, 5, 0, 7))
	_, records, _ = Open(d, 3)
	wantRecords(t, "Open again", records, "again")
}

func TestCheckpointWrites(t *testing.T) {
	none := func(l *Log) {}
	do := func(n int) func(l *Log) api.Errno {
		return func(l *Log) api.Errno { return l.Checkpoint(strings.Repeat("x", n)) }
	}
	want(t, "one sector", callsOf(t, 15, 5, none, do(43)), "5 6 7 8 9 f 5 f 6 f")
	want(t, "two sectors", callsOf(t, 15, 5, none, do(44)), "5 6 7 8 9 f 5 7 f 6 f")
	want(t, "four sectors", callsOf(t, 15, 5, none, do(235)), "5 6 7 8 9 f 5 7 8 9 f 6 f")
	twice := func(l *Log) { l.Checkpoint("y"); l.Append("y", "y", "y", strings.Repeat("y", 108)) }
	want(t, "behind others", callsOf(t, 20, 5, twice, do(44)), "10 11 12 13 14 f 10 12 f 11 f")
}

func TestAppendWrites(t *testing.T) {
	none := func(l *Log) {}
	do := func(sizes ...int) func(l *Log) api.Errno {
		return func(l *Log) api.Errno {
			var bodies []string
			for _, n := range sizes {
				bodies = append(bodies, strings.Repeat("x", n))
			}
			return l.Append(bodies...)
		}
	}
	want(t, "none", callsOf(t, 20, 5, none, do()), "")
	want(t, "one", callsOf(t, 20, 5, none, do(43)), "2 f")
	want(t, "one of two sectors", callsOf(t, 20, 5, none, do(44)), "3 f 2 f")
	want(t, "one of three sectors", callsOf(t, 20, 5, none, do(108)), "3 4 f 2 f")
	want(t, "three", callsOf(t, 20, 5, none, do(0, 1, 2)), "2 3 4 f")
	want(t, "two and one", callsOf(t, 20, 5, none, do(44, 1)), "3 f 2 4 f")
	want(t, "one and two", callsOf(t, 20, 5, none, do(1, 44)), "4 f 2 3 f")
	want(t, "one that starts a segment", callsOf(t, 20, 5, none, do(235)), "5 6 7 8 9 f 5 7 8 9 f 6 f")
	want(t, "one that fits, and one that doesn't", callsOf(t, 20, 5, none, do(108, 1)), "5 6 7 8 9 f 3 4 5 f 2 6 f")
	want(t, "two segments", callsOf(t, 20, 5, none, do(44, 44, 108, 1)),
		"5 6 7 8 9 10 11 12 13 14 f 3 5 7 10 12 13 f 2 6 11 14 f")
	full := strings.Split("yyyyyyy", "")
	moved := func(l *Log) { l.Append(full...); l.Checkpoint("y") }
	want(t, "segments ahead of the current one", callsOf(t, 20, 5, moved, do(108, 108, 108)),
		"0 1 2 3 4 5 6 7 8 9 f 13 14 0 2 3 5 7 8 f 12 1 6 f")
}

func TestLong(t *testing.T) {
	l := opened(t, block.New(12), 3)
	longest := strings.Repeat("x", 107)
	for _, body := range []string{longest + "x", strings.Repeat("x", 1000), strings.Repeat("x", api.MaxUnit), strings.Repeat("x", api.MaxUnit+1)} {
		want(t, "Append", l.Append(body), api.ErrLong)
		want(t, "Append of several", l.Append("a", body, "b"), api.ErrLong)
		want(t, "Append of more than there is room for", l.Append(longest, longest, longest, longest, longest, body), api.ErrLong)
		want(t, "Checkpoint", l.Checkpoint(body), api.ErrLong)
		wantPlace(t, "ErrLong", l, 3, 1, 1)
	}
	want(t, "the longest, appended", l.Append(longest), api.OK)
	want(t, "the longest, a Checkpoint", l.Checkpoint(longest), api.OK)
	l = opened(t, block.New(6), 2)
	want(t, "the least segments", l.Append(strings.Repeat("x", 43)), api.OK)
	want(t, "the least segments, too long", l.Append(strings.Repeat("x", 44)), api.ErrLong)
	want(t, "the least segments, too long", l.Checkpoint(strings.Repeat("x", 44)), api.ErrLong)
	l = opened(t, block.New(api.MaxSectors), 1000)
	want(t, "the greatest device", l.Append(strings.Repeat("x", 999*64-21)), api.OK)
	want(t, "the greatest device, too long", l.Append(strings.Repeat("x", 999*64-20)), api.ErrLong)
}

// TestFull: what has no room writes nothing, and a Checkpoint has room always.
func TestFull(t *testing.T) {
	d := noisy(12)
	l := opened(t, d, 3)
	big := strings.Repeat("x", 107)
	before := d.Lasting()
	want(t, "several", l.Append("a", "b", "c", big, "d"), api.ErrFull)
	want(t, "a great many", l.Append(make([]string, 10000)...), api.ErrFull)
	want(t, "nothing is written", d.Lasting() == before && d.Waits() == 0, true)
	wantPlace(t, "ErrFull", l, 3, 1, 1)
	want(t, "less", l.Append("a", "b", "c", big), api.OK)
	wantPlace(t, "less", l, 1, 5, 3)
	before = d.Lasting()
	want(t, "one more", l.Append("d"), api.ErrFull)
	want(t, "none", l.Append(), api.OK)
	want(t, "nothing is written", d.Lasting() == before && d.Waits() == 0, true)
	l, records, _ := Open(d, 3)
	wantRecords(t, "Open", records, "", "a", "b", "c", big)
	want(t, "one more behind Open", l.Append("d"), api.ErrFull)
	want(t, "a Checkpoint", l.Checkpoint("now"), api.OK)
	wantPlace(t, "a Checkpoint", l, 3, 6, 4)
	want(t, "one more behind it", l.Append("d"), api.OK)
	_, records, _ = Open(d, 3)
	wantRecords(t, "Open", records, "now", "d")
}

func TestAppendBehindOpen(t *testing.T) {
	d := block.New(15)
	opened(t, d, 3).Append("a")
	l := opened(t, d, 3)
	want(t, "none", l.Append(), api.OK)
	wantPlace(t, "none", l, 4, 2, 1)
	want(t, "some", l.Append("b", "c", "d"), api.OK)
	wantPlace(t, "some", l, 2, 5, 3)
	want(t, "the first header", sector(d, 3), head(2, 1, 1, 2))
	want(t, "b", sector(d, 4), unit(2, 2, 2, "b"))
	want(t, "c", sector(d, 5), unit(2, 3, 2, "c"))
	want(t, "the second header", sector(d, 6), head(3, 1, 2, 4))
	want(t, "d", sector(d, 7), unit(3, 4, 2, "d"))
	l = opened(t, d, 3)
	want(t, "one more", l.Append("e"), api.OK)
	want(t, "its header", sector(d, 9), head(4, 1, 3, 5))
	want(t, "it has no more room", l.Append("f", "g"), api.ErrFull)
	_, records, _ := Open(d, 3)
	wantRecords(t, "Open", records, "", "a", "b", "c", "d", "e")
}

// TestBodiesAreBytes: any bytes are a body, and come back as they were.
func TestBodiesAreBytes(t *testing.T) {
	d := block.New(64)
	l := opened(t, d, 8)
	bodies := []string{"", "\x00", "\x00\x00\xff", "H", head(9, 1, 0, 0), unit(9, 9, 2, "x"), zeroSectors(3), strings.Repeat("\xff", 427)}
	want(t, "Append", l.Append(bodies...), api.OK)
	_, records, _ := Open(d, 8)
	wantRecords(t, "Open", records, append([]string{""}, bodies...)...)
	for _, body := range bodies {
		want(t, "Checkpoint", l.Checkpoint(body), api.OK)
		_, records, _ = Open(d, 8)
		wantRecords(t, "Open", records, body)
	}
}

// TestArguments: bodies are neither changed nor kept.
func TestArguments(t *testing.T) {
	d := block.New(64)
	l := opened(t, d, 8)
	bodies := append(make([]string, 0, 8), "a", "b")
	l.Append(bodies...)
	wantRecords(t, "the bodies", bodies[:8], "a", "b", "", "", "", "", "", "")
	bodies[0] = "x"
	_, records, _ := Open(d, 8)
	wantRecords(t, "the records", records, "", "a", "b")
	records[1] = "y"
	_, again, _ := Open(d, 8)
	wantRecords(t, "the records again", again, "", "a", "b")
}

// TestDeviceErrors: an error of the device closes the log, which stays as it was.
func TestDeviceErrors(t *testing.T) {
	long := strings.Repeat("x", 1000)
	for _, call := range []func(l *Log) api.Errno{
		func(l *Log) api.Errno { return l.Append("a", "b", "c") },
		func(l *Log) api.Errno { return l.Checkpoint("a") },
	} {
		for n := 1; ; n++ {
			d := block.New(12)
			l := opened(t, d, 3)
			l.Append("x", "y")
			d.Fuse(n, lost)
			if bad := call(l); bad == api.OK {
				want(t, "several calls of the device", n > 7, true)
				break
			} else {
				want(t, "the device's error", bad, api.ErrPower)
			}
			for range 2 {
				want(t, "Append", l.Append("a"), api.ErrClosed)
				want(t, "Append of nothing", l.Append(), api.ErrClosed)
				want(t, "Append, too long", l.Append(long), api.ErrClosed)
				want(t, "Checkpoint", l.Checkpoint("a"), api.ErrClosed)
				want(t, "Checkpoint, too long", l.Checkpoint(long), api.ErrClosed)
				wantPlace(t, "closed", l, 2, 3, 2)
				d.Up()
			}
			want(t, "nothing is written", d.Waits(), 0)
			_, records, _ := Open(d, 3)
			wantRecords(t, "Open", records, "", "x", "y")
		}
	}
}

// TestNoPower: the device has no power already when it is called.
func TestNoPower(t *testing.T) {
	d := block.New(9)
	l := opened(t, d, 3)
	d.Fuse(1, lost)
	d.Flush()
	want(t, "none", l.Append(), api.OK)
	want(t, "too long", l.Append(strings.Repeat("x", 1000)), api.ErrLong)
	want(t, "Checkpoint", l.Checkpoint("a"), api.ErrPower)
	want(t, "none, closed", l.Append(), api.ErrClosed)
	wantPlace(t, "closed", l, 2, 1, 1)
}
