package wal

import (
	"math"
	"strings"
	"testing"

	"switchyard/api"
	"switchyard/block"
)

const mostSeq = math.MaxUint64
const mostSerial = math.MaxUint32

// begin returns a header and the units behind it, as the parts of a segment of
// five sectors.
func begin(parts ...string) string {
	s := strings.Join(parts, "")
	return s + zeroSectors(5-len(s)/api.Sector)
}

// disk returns a device of segments of five sectors, of which three more are
// full of noise.
func disk(segments ...string) *block.Device {
	d := noisy(5 * (len(segments) + 3))
	d.Fill(strings.Join(segments, "") + d.Lasting()[5*api.Sector*len(segments):])
	return d
}

// old is a log of one segment with the serial 1, and of two records.
func old() string {
	return begin(head(1, 1, 0, 0), unit(1, 0, 1, "old"), unit(1, 1, 2, "er"))
}

func TestOpen(t *testing.T) {
	long := strings.Repeat("x", 4*64-21)
	for _, c := range []struct {
		name    string
		d       *block.Device
		records string // parted by commas
		free    int
		seq     uint64
		serial  int
	}{
		{"one record", disk(begin(head(1, 1, 0, 0), unit(1, 0, 1, "a"))), "a", 3, 1, 1},
		{"two records", disk(old()), "old,er", 3, 2, 1},
		{"not at the beginning", disk("", zeroSectors(15), old()), "old,er", 5, 2, 1},
		{"any serial and Seq", disk(begin(head(7, 7, 0, 90), unit(7, 90, 1, "a"), unit(7, 91, 2, "b"))), "a,b", 3, 92, 7},
		{"a Prev at its base", disk(begin(head(7, 7, 6, 90), unit(7, 90, 1, "a"))), "a", 3, 91, 7},
		{"a full segment", disk(begin(head(1, 1, 0, 5), unit(1, 5, 1, long))), long, 3, 6, 1},
		{"two segments", disk(old(), begin(head(2, 1, 1, 2), unit(2, 2, 2, "b"), unit(2, 3, 2, "c"))), "old,er,b,c", 3, 4, 2},
		{"two segments, turned", disk(begin(head(2, 1, 1, 2), unit(2, 2, 2, "b")), old()), "old,er,b", 3, 3, 2},
		{"a greater step of serials", disk(begin(head(9, 1, 1, 2), unit(9, 2, 2, "b")), old()), "old,er,b", 3, 3, 9},
		{"three segments, in any order", disk(
			begin(head(6, 2, 4, 3), unit(6, 3, 2, "d"), unit(6, 4, 2, "e")),
			begin(head(2, 2, 0, 0), unit(2, 0, 1, "a"), unit(2, 1, 2, "b")),
			begin(head(4, 2, 2, 2), unit(4, 2, 2, "c"))), "a,b,c,d,e", 3, 5, 6},
		{"segments without units", disk(old(), begin(head(2, 1, 1, 2)), begin(head(3, 1, 2, 2)), begin(head(4, 1, 3, 2), unit(4, 2, 2, "b"))), "old,er,b", 3, 3, 4},
		{"units of several sectors", disk(begin(head(1, 1, 0, 0), unit(1, 0, 1, long[:100]), unit(1, 1, 2, long[:44])), begin(head(2, 1, 1, 2), unit(2, 2, 2, long))), long[:100] + "," + long[:44] + "," + long, 3, 3, 2},
		{"the newest of two", disk(old(), begin(head(2, 2, 0, 2), unit(2, 2, 1, "new"))), "new", 4, 3, 2},
		{"the newest of two, ahead", disk(begin(head(2, 2, 0, 2), unit(2, 2, 1, "new")), old()), "new", 4, 3, 2},
		{"the newest of two by its last serial", disk(begin(head(2, 2, 0, 2), unit(2, 2, 1, "new")), old(), begin(head(3, 1, 1, 2), unit(3, 2, 2, "b"))), "old,er,b", 4, 3, 3},
		{"a header in the middle is none", disk(begin(head(1, 1, 0, 0), unit(1, 0, 1, "a"), head(2, 2, 0, 1), unit(2, 1, 1, "b"))), "a", 3, 1, 1},
	} {
		opens(t, c.name, c.d, c.records, c.free, c.seq, c.serial)
	}
}

// opens checks what Open answers, and that it writes nothing.
func opens(t *testing.T, name string, d *block.Device, records string, free int, seq uint64, serial int) {
	t.Helper()
	before := d.Lasting()
	l, got, bad := Open(d, 5)
	want(t, name, bad, api.OK)
	wantRecords(t, name, got, strings.Split(records, ",")...)
	wantPlace(t, name, l, free, seq, serial)
	want(t, name+": nothing is written", d.Lasting() == before && d.Waits() == 0, true)
}

// TestNoChain: where a newer log isn't there whole, the older one is the log,
// and all that the newer one has is free.
func TestNoChain(t *testing.T) {
	long := unit(3, 2, 1, strings.Repeat("x", 300)) // five sectors
	begins := func(unit ...string) *block.Device {
		return disk(old(), begin(append([]string{head(3, 3, 0, 2)}, unit...)...))
	}
	for _, c := range []struct {
		name   string
		d      *block.Device
		free   int
		serial int
	}{
		{"no first unit", begins(), 4, 3},
		{"no first unit, but a second one", begins(zeroSectors(1), unit(3, 2, 1, "new")), 4, 3},
		{"a first unit of Kind 2", begins(unit(3, 2, 2, "new")), 4, 3},
		{"a first unit of Kind 0", begins(unit(3, 2, 0, "new")), 4, 3},
		{"a first unit of Kind 255", begins(unit(3, 2, 255, "new")), 4, 3},
		{"a first unit of an older serial", begins(unit(1, 2, 1, "new")), 4, 3},
		{"a first unit of a newer serial", begins(unit(4, 2, 1, "new")), 4, 3},
		{"a first unit of an older Seq", begins(unit(3, 1, 1, "new")), 4, 3},
		{"a first unit of a newer Seq", begins(unit(3, 3, 1, "new")), 4, 3},
		{"a first unit that is changed", begins(strings.Replace(unit(3, 2, 1, "new"), "n", "N", 1)), 4, 3},
		{"a first unit beyond its segment", disk(old(), head(3, 3, 0, 2)+long[:4*64], long[4*64:]+zeroSectors(4)), 5, 3},
		{"a header that is changed", disk(old(), begin(head(3, 3, 0, 2)[:63]+"x", unit(3, 2, 1, "new"))), 4, 1},
		{"no base", disk(old(), begin(head(3, 2, 1, 2), unit(3, 2, 2, "b"))), 4, 3},
		{"no Prev", disk(old(), begin(head(3, 1, 2, 2), unit(3, 2, 2, "b"))), 4, 3},
		{"a Prev of 0", disk(old(), begin(head(3, 1, 0, 2), unit(3, 2, 2, "b"))), 4, 3},
		{"a Prev below the base", disk(old(), begin(head(3, 2, 1, 2), unit(3, 2, 2, "b")), begin(head(2, 2, 1, 2))), 5, 3},
		{"another base in the middle", disk(old(), begin(head(2, 2, 1, 2)), begin(head(3, 1, 2, 2), unit(3, 2, 2, "c"))), 5, 3},
		{"another base of the base", disk(old(), begin(head(3, 2, 2, 2), unit(3, 2, 2, "c")), begin(head(2, 1, 0, 0), unit(2, 0, 1, "b"))), 5, 3},
		{"a base of a chain that begins above it", disk(begin(head(3, 2, 1, 2), unit(3, 2, 1, "b")), old()), 4, 3},
	} {
		opens(t, c.name, c.d, "old,er", c.free, 2, c.serial)
	}
	opens(t, "a missing segment", disk(old(), begin(head(2, 1, 1, 2), unit(2, 2, 2, "b")), begin(head(4, 1, 3, 3), unit(4, 3, 2, "c"))), "old,er,b", 4, 3, 4)
}

// TestTwins: of two headers with one serial the second one doesn't count.
func TestTwins(t *testing.T) {
	opens(t, "the first one is right", disk(old(), begin(head(1, 1, 0, 5), unit(1, 5, 1, "b"))), "old,er", 4, 2, 1)
	opens(t, "three of them", disk(old(), begin(head(1, 1, 0, 5), unit(1, 5, 1, "b")), begin(head(1, 1, 0, 6), unit(1, 6, 1, "c"))), "old,er", 5, 2, 1)
	opens(t, "the first one is wrong", disk(begin(head(3, 3, 0, 5)), old(), begin(head(3, 3, 0, 2), unit(3, 2, 1, "new"))), "old,er", 5, 2, 3)
	opens(t, "in the middle", disk(old(), begin(head(2, 1, 1, 2), unit(2, 2, 2, "b")), begin(head(2, 1, 1, 2), unit(2, 2, 2, "c")), begin(head(3, 1, 2, 3), unit(3, 3, 2, "d"))), "old,er,b,d", 4, 4, 3)
	d := disk(begin(head(3, 3, 0, 5)), begin(head(3, 3, 0, 2), unit(3, 2, 1, "new")))
	l, records, bad := Open(d, 5)
	want(t, "no chain", bad, api.OK)
	wantRecords(t, "no chain", records, "")
	wantPlace(t, "no chain", l, 4, 1, 4)
}

// TestWhereItEnds: what the log's chain has behind the last record.
func TestWhereItEnds(t *testing.T) {
	long := unit(1, 2, 2, strings.Repeat("x", 300)) // five sectors
	behind := func(parts ...string) *block.Device {
		return disk(begin(append([]string{head(1, 1, 0, 0), unit(1, 0, 1, "a"), unit(1, 1, 2, "b")}, parts...)...))
	}
	for _, c := range []struct {
		name    string
		d       *block.Device
		records string
		free    int
		seq     uint64
		serial  int
	}{
		{"one more", behind(unit(1, 2, 2, "c")), "a,b,c", 3, 3, 1},
		{"two more", behind(unit(1, 2, 2, "c"), unit(1, 3, 2, "d")), "a,b,c,d", 3, 4, 1},
		{"Kind 1", behind(unit(1, 2, 1, "c")), "a,b", 3, 2, 1},
		{"Kind 0", behind(unit(1, 2, 0, "c")), "a,b", 3, 2, 1},
		{"Kind 3", behind(unit(1, 2, 3, "c")), "a,b", 3, 2, 1},
		{"an older serial", behind(unit(0, 2, 2, "c")), "a,b", 3, 2, 1},
		{"a newer serial", behind(unit(2, 2, 2, "c")), "a,b", 3, 2, 1},
		{"the same Seq", behind(unit(1, 1, 2, "c")), "a,b", 3, 2, 1},
		{"a Seq left out", behind(unit(1, 3, 2, "c")), "a,b", 3, 2, 1},
		{"a hole", behind(zeroSectors(1), unit(1, 2, 2, "c")), "a,b", 3, 2, 1},
		{"a wrong one ahead", behind(unit(1, 3, 2, "c"), unit(1, 2, 2, "c")), "a,b", 3, 2, 1},
		{"one that is changed", behind(strings.Replace(unit(1, 2, 2, "c"), "c", "d", 1)), "a,b", 3, 2, 1},
		{"beyond the segment", disk(begin(head(1, 1, 0, 0), unit(1, 0, 1, "a"), unit(1, 1, 2, "b"), long[:128]), long[128:]+zeroSectors(2)), "a,b", 4, 2, 1},
		{"a segment of the same Seq", disk(old(), begin(head(2, 1, 1, 1), unit(2, 1, 2, "b"))), "old,er", 4, 2, 2},
		{"a segment with a Seq left out", disk(old(), begin(head(2, 1, 1, 3), unit(2, 3, 2, "b"))), "old,er", 4, 2, 2},
		{"a segment of the wrong Seq, and units of the right one", disk(old(), begin(head(2, 1, 1, 3), unit(2, 2, 2, "b"))), "old,er", 4, 2, 2},
		{"a segment of the right Seq, and units of a wrong one", disk(old(), begin(head(2, 1, 1, 2), unit(2, 3, 2, "b"))), "old,er", 3, 2, 2},
		{"a segment of the right Seq with Kind 1", disk(old(), begin(head(2, 1, 1, 2), unit(2, 2, 1, "b"))), "old,er", 3, 2, 2},
		{"a segment of the right Seq with the serial of another", disk(old(), begin(head(2, 1, 1, 2), unit(1, 2, 2, "b"))), "old,er", 3, 2, 2},
		{"segments behind one of the wrong Seq", disk(old(), begin(head(2, 1, 1, 3), unit(2, 3, 2, "b")), begin(head(3, 1, 2, 2), unit(3, 2, 2, "c"))), "old,er", 5, 2, 3},
		{"a hole ahead of a segment", disk(old(), begin(head(2, 1, 1, 2), zeroSectors(1), unit(2, 2, 2, "b")), begin(head(3, 1, 2, 3), unit(3, 3, 2, "c"))), "old,er", 4, 2, 3},
	} {
		opens(t, c.name, c.d, c.records, c.free, c.seq, c.serial)
	}
}

// TestAppendBehindTheEnd: what an Append starts follows the last segment of the
// log, not the last one of the chain, and is newer than all.
func TestAppendBehindTheEnd(t *testing.T) {
	d := disk(old(), begin(head(2, 1, 1, 2)), begin(head(3, 1, 2, 7), unit(3, 7, 2, "b")), begin(head(9, 8, 1, 1)))
	l := opened(t, d, 5)
	wantPlace(t, "Open", l, 5, 2, 9)
	want(t, "Append", l.Append("c"), api.OK)
	wantPlace(t, "Append", l, 4, 3, 10)
	want(t, "its header", sector(d, 10), head(10, 1, 2, 2))
	want(t, "its unit", sector(d, 11), unit(10, 2, 2, "c"))
	opens(t, "Open again", d, "old,er,c", 4, 3, 10)
}

// TestSeqGoesRound: 0 follows the greatest Seq.
func TestSeqGoesRound(t *testing.T) {
	last := begin(head(1, 1, 0, mostSeq-1), unit(1, mostSeq-1, 1, "a"), unit(1, mostSeq, 2, "b"))
	opens(t, "up to the greatest", disk(last), "a,b", 3, 0, 1)
	opens(t, "within a segment", disk(begin(last[:192], unit(1, 0, 2, "c"))), "a,b,c", 3, 1, 1)
	opens(t, "to the next segment", disk(last, begin(head(2, 1, 1, 0), unit(2, 0, 2, "c"), unit(2, 1, 2, "d"))), "a,b,c,d", 3, 2, 2)
	d := disk(last)
	l := opened(t, d, 5)
	want(t, "Append", l.Append("c", "d"), api.OK)
	want(t, "its header", sector(d, 5), head(2, 1, 1, 0))
	opens(t, "Append", d, "a,b,c,d", 2, 2, 2)
	d = disk(begin(last[:128]))
	l = opened(t, d, 5)
	want(t, "the greatest Seq", l.Seq(), mostSeq)
	want(t, "Append over it", l.Append("b", "c"), api.OK)
	wantPlace(t, "Append over it", l, 2, 1, 2)
	opens(t, "Append over it", d, "a,b,c", 2, 1, 2)
	d = disk(begin(last[:128]))
	l = opened(t, d, 5)
	want(t, "a Checkpoint of it", l.Checkpoint("b"), api.OK)
	wantPlace(t, "a Checkpoint of it", l, 3, 0, 2)
	opens(t, "a Checkpoint of it", d, "b", 3, 0, 2)
}

// TestNothingThere: without a valid chain, Open begins a log behind all serials.
func TestNothingThere(t *testing.T) {
	d := disk(begin(head(4, 4, 3, 7), unit(4, 8, 1, "a")), begin(head(6, 4, 4, 8), unit(6, 8, 2, "b")))
	l, records, bad := Open(d, 5)
	want(t, "Open", bad, api.OK)
	wantRecords(t, "Open", records, "")
	wantPlace(t, "Open", l, 4, 1, 7)
	want(t, "its header", sector(d, 0), head(7, 7, 0, 0))
	want(t, "its unit", sector(d, 1), unit(7, 0, 1, ""))
	want(t, "what was there", d.Lasting()[128:320], zeroSectors(3))
	opens(t, "Open again", d, "", 4, 1, 7)
}

// TestGreatestSerial: no serial follows the greatest 32-bit number.
func TestGreatestSerial(t *testing.T) {
	d := disk(begin(head(mostSerial, 4, 3, 7)))
	before := d.Lasting()
	l, records, bad := Open(d, 5)
	want(t, "no chain", bad, api.ErrFull)
	want(t, "no chain: nothing beside it", l == nil && len(records) == 0, true)
	want(t, "no chain: nothing is written", d.Lasting() == before && d.Waits() == 0, true)

	for name, d := range map[string]*block.Device{
		"the log's":  disk(begin(head(mostSerial, mostSerial, 0, 7), unit(mostSerial, 7, 1, "a"))),
		"a free one": disk(begin(head(2, 2, 1, 7), unit(2, 7, 1, "a")), begin(head(mostSerial, mostSerial-1, 2, 8))),
	} {
		l := opened(t, d, 5)
		free, before := l.Free(), d.Lasting()
		want(t, name+": Append", l.Append("b"), api.ErrFull)
		want(t, name+": Append of none", l.Append(), api.OK)
		want(t, name+": Checkpoint", l.Checkpoint("b"), api.ErrFull)
		want(t, name+": too long", l.Checkpoint(strings.Repeat("x", 300)), api.ErrLong)
		wantPlace(t, name, l, free, 8, mostSerial)
		want(t, name+": nothing is written", d.Lasting() == before && d.Waits() == 0, true)
	}

	nearly := func() (*block.Device, *Log) {
		d := disk(begin(head(2, 2, 1, 7), unit(2, 7, 1, "a")), begin(head(mostSerial-1, 1, 0, 7)))
		return d, opened(t, d, 5)
	}
	d, l = nearly()
	want(t, "two segments", l.Append("b", strings.Repeat("x", 200)), api.ErrFull)
	wantPlace(t, "two segments", l, 4, 8, mostSerial-1)
	want(t, "one segment", l.Append("b", "c"), api.OK)
	wantPlace(t, "one segment", l, 3, 10, mostSerial)
	want(t, "in this segment", l.Append("d"), api.OK)
	want(t, "in one more", l.Append("e", "f"), api.ErrFull)
	want(t, "a Checkpoint", l.Checkpoint("g"), api.ErrFull)
	opens(t, "Append", d, "a,b,c,d", 3, 11, mostSerial)
	d, l = nearly()
	want(t, "a Checkpoint", l.Checkpoint("b"), api.OK)
	want(t, "one more Checkpoint", l.Checkpoint("c"), api.ErrFull)
	want(t, "behind it", l.Append("d"), api.OK)
	opens(t, "a Checkpoint", d, "b,d", 4, 10, mostSerial)
}

// TestNoSegmentFree: a log may have taken all segments, though not by Append.
func TestNoSegmentFree(t *testing.T) {
	d := block.New(15)
	d.Fill(old() + begin(head(2, 1, 1, 2), unit(2, 2, 2, "b")) + begin(head(3, 1, 2, 3)))
	opens(t, "Open", d, "old,er,b", 0, 3, 3)
	l := opened(t, d, 5)
	before := d.Lasting()
	want(t, "Append", l.Append("c"), api.ErrFull)
	want(t, "Append of none", l.Append(), api.OK)
	want(t, "Checkpoint", l.Checkpoint("c"), api.ErrFull)
	wantPlace(t, "full", l, 0, 3, 3)
	want(t, "nothing is written", d.Lasting() == before && d.Waits() == 0, true)

	d.Fill(old() + begin(head(2, 1, 1, 2), unit(2, 2, 2, "b")))
	l = opened(t, d, 5)
	want(t, "Append to the last one", l.Append("c"), api.ErrFull)
	want(t, "a Checkpoint in the last one", l.Checkpoint("c"), api.OK)
	opens(t, "a Checkpoint in the last one", d, "c", 2, 4, 3)
}
