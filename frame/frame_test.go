package frame

import (
	"encoding/binary"
	"hash/crc32"
	"math"
	"strings"
	"testing"

	"switchyard/api"
)

func want[T comparable](t *testing.T, what string, got, wanted T) {
	t.Helper()
	if got != wanted {
		t.Errorf("%s: got %#v, want %#v", what, got, wanted)
	}
}

// summed returns s behind its checksum, as the library makes it.
func summed(s string) string {
	sum := crc32.Checksum([]byte(s), crc32.MakeTable(crc32.Castagnoli))
	return string(binary.BigEndian.AppendUint32(nil, sum)) + s
}

// padded returns s, and zero bytes up to a multiple of 64.
func padded(s string) string {
	return s + strings.Repeat("\x00", (64-len(s)%64)%64)
}

// inside returns what a unit's checksum is made of, with any length told.
func inside(u Unit, length uint32) string {
	b := binary.BigEndian.AppendUint32(nil, u.Serial)
	b = binary.BigEndian.AppendUint64(b, u.Seq)
	b = append(b, byte(u.Kind))
	b = binary.BigEndian.AppendUint32(b, length)
	return string(b) + u.Body
}

// some returns n bytes that follow a fixed rule and look like no pattern.
func some(n int) string {
	out := make([]byte, n)
	x := uint32(n + 1)
	for i := range out {
		x = x*1664525 + 1013904223
		out[i] = byte(x >> 24)
	}
	return string(out)
}

func units() []Unit {
	out := []Unit{
		{},
		{Serial: 1},
		{Seq: 1},
		{Kind: 1},
		{Serial: 0x01020304, Seq: 0x05060708090A0B0C, Kind: 0x0D, Body: "abc"},
		{Serial: math.MaxUint32, Seq: math.MaxUint64, Kind: 255, Body: "\xff"},
		{Serial: 1 << 31, Seq: 1 << 63, Kind: 128, Body: "\x00"},
		{Serial: 7, Seq: 9, Kind: 2, Body: strings.Repeat("\x00", 200)},
	}
	for _, n := range []int{42, 43, 44, 106, 107, 108, 127, 128, 300, 5000, 65536} {
		out = append(out, Unit{Serial: uint32(n), Seq: uint64(n) << 20, Kind: n % 256, Body: some(n)})
	}
	return out
}

// gets checks that Get answers an error, and the zero Unit beside it.
func gets(t *testing.T, what, s string, bad api.Errno) {
	t.Helper()
	u, got := Get(s)
	want(t, what, got, bad)
	want(t, what+", beside it", u, Unit{})
}

func TestSectors(t *testing.T) {
	for _, c := range []struct{ n, want int }{
		{math.MinInt, 0}, {-1, 0}, {0, 1}, {1, 1}, {42, 1}, {43, 1}, {44, 2}, {107, 2}, {108, 3}, {171, 3}, {172, 4},
		{api.MaxUnit - 1, 16385}, {api.MaxUnit, 16385}, {api.MaxUnit + 1, 0}, {2 * api.MaxUnit, 0}, {math.MaxInt, 0},
	} {
		want(t, "Sectors", Sectors(c.n), c.want)
	}
	for n := range 1000 {
		want(t, "Sectors", Sectors(n), len(padded(strings.Repeat("x", 21+n)))/64)
	}
}

func TestPut(t *testing.T) {
	for _, u := range units() {
		s, bad := Put(u)
		want(t, "Put's error", bad, api.OK)
		want(t, "Put", s, padded(summed(inside(u, uint32(len(u.Body))))))
		want(t, "Put's sectors", len(s), 64*Sectors(len(u.Body)))
	}
}

func TestPutErrors(t *testing.T) {
	long := strings.Repeat("x", api.MaxUnit+1)
	for _, c := range []struct {
		u   Unit
		bad api.Errno
	}{
		{Unit{Kind: 0, Body: "a"}, api.OK},
		{Unit{Kind: 255, Body: "a"}, api.OK},
		{Unit{Kind: -1, Body: "a"}, api.ErrArg},
		{Unit{Kind: 256, Body: "a"}, api.ErrArg},
		{Unit{Kind: math.MinInt}, api.ErrArg},
		{Unit{Kind: math.MaxInt}, api.ErrArg},
		{Unit{Kind: 1 << 32}, api.ErrArg},
		{Unit{Kind: 1, Body: long}, api.ErrLong},
		{Unit{Kind: 256, Body: long}, api.ErrLong}, // ahead of ErrArg
		{Unit{Kind: -1, Body: long + long}, api.ErrLong},
		{Unit{Kind: 256, Body: long[:api.MaxUnit]}, api.ErrArg},
	} {
		s, bad := Put(c.u)
		want(t, "Put's error", bad, c.bad)
		want(t, "Put is empty", s == "", c.bad != api.OK)
	}
}

func TestGreatestUnit(t *testing.T) {
	u := Unit{Serial: 3, Seq: 4, Kind: 5, Body: some(api.MaxUnit)}
	s, bad := Put(u)
	want(t, "Put's error", bad, api.OK)
	want(t, "Put's sectors", len(s), 16385*64)
	v, bad := Get(s)
	want(t, "Get's error", bad, api.OK)
	want(t, "Get", v == u, true)
	gets(t, "cut", s[:len(s)-1], api.ErrShort)
}

func TestGetWhatWasPut(t *testing.T) {
	for _, u := range units() {
		s, _ := Put(u)
		for _, behind := range []string{"", "x", "\x00", s, some(64), strings.Repeat("\xff", 100)} {
			v, bad := Get(s + behind)
			want(t, "Get's error", bad, api.OK)
			want(t, "Get", v, u)
		}
	}
}

func TestGetOfLess(t *testing.T) {
	for _, body := range []string{"", "abc", some(43), some(44), some(150)} {
		s, _ := Put(Unit{Serial: 1, Seq: 2, Kind: 3, Body: body})
		for n := range len(s) {
			gets(t, "a part of a unit", s[:n], api.ErrShort)
		}
	}
}

func TestGetErrors(t *testing.T) {
	u := Unit{Serial: 1, Seq: 2, Kind: 3, Body: "abc"}
	good, _ := Put(u)
	told := func(length uint32) string { return summed(inside(u, length)) }
	changed := func(s string, i int) string { return s[:i] + string([]byte{s[i] ^ 0x10}) + s[i+1:] }
	for _, c := range []struct {
		name, s string
		bad     api.Errno
	}{
		{"nothing", "", api.ErrShort},
		{"20 bytes of a length too great", told(api.MaxUnit + 1)[:20], api.ErrShort},
		{"21 bytes", told(3)[:21], api.ErrShort},
		{"a length too great", padded(told(api.MaxUnit + 1)), api.ErrForm},
		{"a length too great, ahead of ErrShort", told(api.MaxUnit + 1)[:21], api.ErrForm},
		{"the greatest length", told(math.MaxUint32)[:21], api.ErrForm},
		{"a length of the highest bit", told(1 << 31), api.ErrForm},
		{"MaxUnit, cut", padded(told(api.MaxUnit)), api.ErrShort},
		{"without its zeros", told(3), api.ErrShort},
		{"without its last zero", good[:63], api.ErrShort},
		{"without its last zero, and wrong", changed(good, 0)[:63], api.ErrShort},
		{"a wrong checksum", changed(good, 3), api.ErrForm},
		{"a wrong serial", changed(good, 4), api.ErrForm},
		{"a wrong body", changed(good, 23), api.ErrForm},
		{"a byte behind the body", changed(good, 24), api.ErrForm},
		{"a byte at the end", changed(good, 63), api.ErrForm},
		{"zeros", strings.Repeat("\x00", 64), api.ErrForm},
		{"bytes of 255", strings.Repeat("\xff", 64), api.ErrForm},
		{"noise", some(64), api.ErrForm},
		{"a byte behind the unit", good + "\x01", api.OK},
		{"zeros behind the unit", padded(good + "\x00"), api.OK},
	} {
		v, bad := Get(c.s)
		want(t, c.name, bad, c.bad)
		if bad != api.OK {
			want(t, c.name+", beside it", v, Unit{})
		} else {
			want(t, c.name+", the unit", v, u)
		}
	}
}

// TestPaddingCounts: the checksum ends with the body, so the zeros behind it
// are looked at by themselves, each of them, and in the last sector alone.
func TestPaddingCounts(t *testing.T) {
	for _, n := range []int{0, 3, 42, 43, 44, 100} {
		s, _ := Put(Unit{Serial: 1, Body: some(n)})
		for i := 21 + n; i < len(s); i++ {
			for _, b := range []byte{1, 0x20, 0x80, 0xff} {
				gets(t, "padding", s[:i]+string([]byte{b})+s[i+1:], api.ErrForm)
			}
		}
	}
}

func TestFourBytesTell(t *testing.T) {
	masks := []uint32{math.MaxUint32, 0x01020304, 0x80000001, 0x82F63B78}
	for i := range 32 {
		masks = append(masks, 1<<i)
	}
	for i := range 60 {
		masks = append(masks, uint32(i+1)*0x9E3779B1)
	}
	for _, n := range []int{0, 3, 39, 43, 44, 90} {
		s, _ := Put(Unit{Serial: 0x01020304, Seq: 9, Kind: 7, Body: some(n)})
		for at := range len(s) - 3 {
			// All of the checksum or none of it; and not the body's length.
			if at > 0 && at < 4 || at > 13 && at < 21 {
				continue
			}
			for _, m := range masks {
				l := []byte(s)
				binary.BigEndian.PutUint32(l[at:], binary.BigEndian.Uint32(l[at:])^m)
				gets(t, "four bytes changed", string(l), api.ErrForm)
			}
		}
	}
}
