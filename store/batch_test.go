package store

import (
	"slices"
	"strings"
	"testing"

	"switchyard/api"
	"switchyard/pack"
)

// many are so many changes, of which each has a key of its own.
func many(n int) []Change {
	var l []Change
	for i := range n {
		l = append(l, set(string([]byte{byte(i >> 8), byte(i)}), ""))
	}
	return l
}

// packs checks that a batch has this encoding, and is its batch.
func packs(t *testing.T, what, s string, l ...Change) {
	t.Helper()
	got, bad := Pack(l...)
	want(t, what+": Pack", bad, api.OK)
	if got != s {
		t.Errorf("%s: Pack: got %.80q, want %.80q", what, got, s)
	}
	for i := range l {
		if l[i].Gone {
			l[i].Value = ""
		}
	}
	unpacks(t, what, s, l...)
}

func unpacks(t *testing.T, what, s string, l ...Change) {
	t.Helper()
	got, bad := Unpack(s)
	want(t, what+": Unpack", bad, api.OK)
	if !slices.Equal(got, l) {
		t.Errorf("%s: Unpack: got %d changes, which aren't the %d of %.80q", what, len(got), len(l), s)
	}
}

// fails checks that bytes are no encoding of a batch.
func fails(t *testing.T, what, s string, wanted api.Errno) {
	t.Helper()
	l, bad := Unpack(s)
	want(t, what+": Unpack", bad, wanted)
	want(t, what+": nothing beside it", len(l), 0)
}

func TestPack(t *testing.T) {
	packs(t, "none", "\x00")
	packs(t, "the example", "\x02\x00\x01a\x02bc\x01\x01d", set("a", "bc"), gone("d"))
	packs(t, "one", "\x01\x00\x01a\x011", set("a", "1"))
	packs(t, "a deletion", "\x01\x01\x01a", gone("a"))
	packs(t, "no bytes", "\x01\x00\x00\x00", set("", ""))
	packs(t, "a deletion of no bytes", "\x01\x01\x00", gone(""))
	packs(t, "a key alone", "\x01\x00\x02ab\x00", set("ab", ""))
	packs(t, "a value alone", "\x01\x00\x00\x02ab", set("", "ab"))
	packs(t, "any bytes", "\x01\x00\x04\x00\xff\x80\n\x03\x00\x01\xfe", set("\x00\xff\x80\n", "\x00\x01\xfe"))
	packs(t, "in their order", "\x05\x00\x01b\x011\x00\x01a\x012\x01\x01b\x00\x01b\x013\x00\x01b\x013",
		set("b", "1"), set("a", "2"), gone("b"), set("b", "3"), set("b", "3"))
	packs(t, "a deletion with a value", "\x02\x01\x01a\x00\x01b\x00", Change{Key: "a", Value: "1", Gone: true}, set("b", ""))
	packs(t, "a deletion with a value that is too long", "\x01\x01\x01a", Change{Key: "a", Value: xs(65537), Gone: true})
	packs(t, "the longest key", "\x01\x00\x40"+xs(64)+"\x00", set(xs(64), ""))
	packs(t, "the longest key, deleted", "\x01\x01\x40"+xs(64), gone(xs(64)))
	packs(t, "a value of 127 bytes", "\x01\x00\x00\x7f"+xs(127), set("", xs(127)))
	packs(t, "a value of 128 bytes", "\x01\x00\x00\x80\x01"+xs(128), set("", xs(128)))
	packs(t, "the longest value", "\x01\x00\x00\x80\x80\x04"+xs(65536), set("", xs(65536)))
	packs(t, "127", "\x7f"+strings.Repeat("\x01\x01a", 127), slices.Repeat([]Change{gone("a")}, 127)...)
	packs(t, "128", "\x80\x01"+strings.Repeat("\x01\x01a", 128), slices.Repeat([]Change{gone("a")}, 128)...)
	packs(t, "as many as there may be", "\x80\x40"+strings.Repeat("\x00\x00\x01a", 8192), slices.Repeat([]Change{set("", "a")}, 8192)...)
	l := many(8192)
	s, bad := Pack(l...)
	want(t, "as many as there may be", bad, api.OK)
	unpacks(t, "as many as there may be", s, l...)
	// Longer than a record of the log may be.
	packs(t, "a long batch", "\x14"+strings.Repeat("\x00\x00\x80\x80\x04"+xs(65536), 20), slices.Repeat([]Change{set("", xs(65536))}, 20)...)
}

func TestPackErrors(t *testing.T) {
	beside := func(c Change) []Change { return []Change{set("a", ""), c, gone("b")} }
	tooMany := many(8193)
	for _, c := range []struct {
		name string
		l    []Change
		bad  api.Errno
	}{
		{"one more than there may be", tooMany, api.ErrMany},
		{"one more, of deletions", slices.Repeat([]Change{gone("a")}, 8193), api.ErrMany},
		{"many more", make([]Change, 100000), api.ErrMany},
		{"too many, and a key that is too long", append(slices.Clone(tooMany), set(xs(65), "")), api.ErrMany},
		{"too many, and a value that is too long at their beginning", append([]Change{set("a", xs(65537))}, tooMany...), api.ErrMany},
		{"a key that is too long", beside(set(xs(65), "")), api.ErrLong},
		{"a key that is far too long", beside(set(xs(1000000), "")), api.ErrLong},
		{"a deletion's key that is too long", beside(gone(xs(65))), api.ErrLong},
		{"a value that is too long", beside(set("a", xs(65537))), api.ErrLong},
		{"a value that is far too long", beside(set("a", xs(3000000))), api.ErrLong},
		{"both", beside(set(xs(65), xs(65537))), api.ErrLong},
		{"the last one of as many as there may be", append(many(8191), set(xs(65), "")), api.ErrLong},
		{"alone", []Change{set(xs(65), "")}, api.ErrLong},
		{"the longest ones", beside(set(xs(64), xs(65536))), api.OK},
	} {
		s, bad := Pack(c.l...)
		want(t, c.name, bad, c.bad)
		want(t, c.name+": an encoding", s != "", c.bad == api.OK)
	}
}

func TestUnpackErrors(t *testing.T) {
	few := strings.Repeat("\x00\x00\x00", 8193)
	for _, c := range []struct {
		name, s string
		bad     api.Errno
	}{
		{"no bytes", "", api.ErrShort},
		{"half a count", "\x80", api.ErrShort},
		{"a count that isn't the shortest", "\x80\x00", api.ErrForm},
		{"a count of one that isn't the shortest", "\x81\x00\x01\x01a", api.ErrForm},
		{"a count of ten bytes and more", strings.Repeat("\x80", 10), api.ErrForm},
		{"a count beyond 64 bits", strings.Repeat("\xff", 9) + "\x02", api.ErrForm},
		{"the greatest count", pack.Count(1<<64 - 1), api.ErrLong},
		{"a count of 2^63", pack.Count(1 << 63), api.ErrLong},
		{"a count of 2^32", pack.Count(1 << 32), api.ErrLong},
		{"a count that is too large", "\x81\x40", api.ErrLong},
		{"a count that is too large, of as many", "\x81\x40" + few, api.ErrLong},
		{"the greatest count that may be, of none", "\x80\x40", api.ErrShort},
		{"the greatest count that may be, of one less", "\x80\x40" + few[:3*8191], api.ErrShort},
		{"one, of none", "\x01", api.ErrShort},
		{"two, of one", "\x02\x01\x01a", api.ErrShort},
		{"a boolean of 2", "\x01\x02", api.ErrForm},
		{"a boolean of 2 ahead of a change", "\x01\x02\x01a\x00", api.ErrForm},
		{"a boolean of 255", "\x01\xff\x01a", api.ErrForm},
		{"a second boolean of 2", "\x02\x01\x01a\x02\x01b", api.ErrForm},
		{"a key that is too long", "\x01\x00\x41" + xs(65) + "\x00", api.ErrLong},
		{"a key that is too long, and isn't there", "\x01\x00\x41", api.ErrLong},
		{"a deletion's key that is too long", "\x01\x01\x41" + xs(65), api.ErrLong},
		{"a key of the greatest length", "\x01\x00" + pack.Count(1<<64-1), api.ErrLong},
		{"a key that is too short", "\x01\x00\x40" + xs(63), api.ErrShort},
		{"a key's length that isn't the shortest", "\x01\x00\x81\x00a\x00", api.ErrForm},
		{"a key's length that ends", "\x01\x00\x81", api.ErrShort},
		{"a value that is too long", "\x01\x00\x01a\x81\x80\x04" + xs(65537), api.ErrLong},
		{"a value that is too long, and isn't there", "\x01\x00\x01a\x81\x80\x04", api.ErrLong},
		{"a value of the greatest length", "\x01\x00\x01a" + pack.Count(1<<64-1), api.ErrLong},
		{"a value that is too short", "\x01\x00\x01a\x80\x80\x04" + xs(65535), api.ErrShort},
		{"a value's length that isn't the shortest", "\x01\x00\x01a\x81\x00a", api.ErrForm},
		{"a deletion with a value", "\x01\x01\x01a\x011", api.ErrForm},
		{"a deletion with an empty value", "\x01\x01\x01a\x00", api.ErrForm},
		{"none, and a byte", "\x00\x00", api.ErrForm},
		{"none, and a change", "\x00\x01\x01a", api.ErrForm},
		{"one, and one more", "\x01\x01\x01a\x01\x01b", api.ErrForm},
		{"one, and a byte", "\x01\x00\x01a\x011\x00", api.ErrForm},
		{"the first of two errors, ErrForm", "\x02\x02\x41\x00\x41", api.ErrForm},
		{"the first of two errors, ErrLong", "\x02\x00\x41\x02\x80\x00", api.ErrLong},
		{"ErrLong, and bytes behind it", "\x01\x00\x41\x00", api.ErrLong},
	} {
		fails(t, c.name, c.s, c.bad)
	}
}

// batches are of all sorts.
func batches() [][]Change {
	return [][]Change{
		nil,
		{set("a", "1")},
		{gone("a")},
		{set("", "")},
		{gone("")},
		{set("a", "bc"), gone("d")},
		{gone("d"), set("a", "bc"), set("a", "bc"), gone("a")},
		{set(xs(64), xs(300)), set("\x00", "\xff\x80"), gone("\x01\x00")},
		slices.Repeat([]Change{set("k", "v"), gone("k")}, 20),
	}
}

// TestBytesThatEnd: an encoding isn't one with fewer bytes, nor with more.
func TestBytesThatEnd(t *testing.T) {
	for _, l := range batches() {
		s, bad := Pack(l...)
		want(t, "Pack", bad, api.OK)
		unpacks(t, "whole", s, l...)
		for i := range len(s) {
			fails(t, "cut off", s[:i], api.ErrShort)
		}
		for _, more := range []string{"\x00", "\x01", "\xff", "\x80\x00", s, xs(100)} {
			fails(t, "with more", s+more, api.ErrForm)
		}
	}
}

// TestBytesThatChange: of the bytes with one changed, those that are a batch's
// encoding are that one alone.
func TestBytesThatChange(t *testing.T) {
	for _, l := range batches() {
		s, _ := Pack(l...)
		for i := range len(s) {
			for b := range 256 {
				changed := s[:i] + string([]byte{byte(b)}) + s[i+1:]
				got, bad := Unpack(changed)
				if bad != api.OK {
					want(t, "nothing beside an error", len(got), 0)
					continue
				}
				again, bad := Pack(got...)
				want(t, "Pack of what was unpacked", bad, api.OK)
				want(t, "its encoding", again, changed)
				want(t, "the same batch", slices.Equal(got, l), changed == s)
			}
		}
	}
}

// TestAllShortBytes: of all short rows of some bytes, those that are encodings
// are those of their batches.
func TestAllShortBytes(t *testing.T) {
	rows := []string{""}
	found := 0
	for range 7 {
		var longer []string
		for _, s := range rows {
			for _, b := range []string{"\x00", "\x01", "\x02", "\x03", "\x80"} {
				longer = append(longer, s+b)
			}
		}
		rows = longer
		for _, s := range rows {
			l, bad := Unpack(s)
			if bad != api.OK {
				continue
			}
			found++
			want(t, "its encoding", packed(l...), s)
			again, bad := Pack(l...)
			want(t, "Pack", bad, api.OK)
			want(t, "Pack", again, s)
		}
	}
	want(t, "some of them are", found > 100, true)
}
