package frame

import (
	"encoding/binary"
	"math"
	"strings"
	"testing"

	"switchyard/api"
)

// headBytes returns what a header has behind its checksum, up to its zeros,
// with any letter, and whether or not the numbers may be a header's.
func headBytes(letter byte, h Head) string {
	b := binary.BigEndian.AppendUint32([]byte{letter}, h.Serial)
	b = binary.BigEndian.AppendUint32(b, h.Base)
	b = binary.BigEndian.AppendUint32(b, h.Prev)
	return string(binary.BigEndian.AppendUint64(b, h.Seq))
}

// sectorOf returns 60 bytes that begin like this, behind their checksum.
func sectorOf(s string) string {
	return summed(s + strings.Repeat("\x00", 60-len(s)))
}

func heads() []Head {
	const most = math.MaxUint32
	return []Head{
		{1, 1, 0, 0},
		{1, 1, 0, math.MaxUint64},
		{2, 1, 0, 5},
		{2, 1, 1, 5},
		{2, 2, 0, 1},
		{2, 2, 1, 1 << 63},
		{5, 2, 4, 9},
		{5, 4, 2, 9},
		{0x01020304, 0x01010203, 0x00050607, 0x08090A0B0C0D0E0F},
		{1 << 31, 1, 1<<31 - 1, 7},
		{most, most, most - 1, math.MaxUint64},
		{most, 1, 0, 0},
		{most, 1, most - 1, 0},
	}
}

func noHeads() []Head {
	const most = math.MaxUint32
	return []Head{
		{},
		{0, 0, 0, 9},
		{0, 1, 0, 9},
		{1, 0, 0, 9}, // Base at least 1
		{most, 0, 0, 9},
		{1, 2, 0, 9}, // Base at most Serial
		{most - 1, most, 0, 9},
		{1, 1, 1, 9}, // Prev less than Serial
		{1, 1, 2, 9},
		{5, 5, 5, 9},
		{most, most, most, 9},
		{1, most, most, 9},
	}
}

func TestHeads(t *testing.T) {
	for _, h := range heads() {
		s, bad := PutHead(h)
		want(t, "PutHead's error", bad, api.OK)
		want(t, "PutHead", s, sectorOf(headBytes('H', h)))
		want(t, "PutHead's length", len(s), 64)
		k, ok := GetHead(s)
		want(t, "GetHead's truth", ok, true)
		want(t, "GetHead", k, h)
	}
}

// noHead checks that GetHead finds none, and answers the zero Head.
func noHead(t *testing.T, what, s string) {
	t.Helper()
	h, ok := GetHead(s)
	want(t, what, ok, false)
	want(t, what+", beside it", h, Head{})
}

func TestNoHeads(t *testing.T) {
	for _, h := range noHeads() {
		s, bad := PutHead(h)
		want(t, "PutHead's error", bad, api.ErrArg)
		want(t, "PutHead", s, "")
		noHead(t, "GetHead of wrong numbers", sectorOf(headBytes('H', h)))
	}
}

func TestGetHeadOfOtherSizes(t *testing.T) {
	s, _ := PutHead(Head{Serial: 3, Base: 2, Prev: 1, Seq: 4})
	for n := range 64 {
		noHead(t, "a part", s[:n])
	}
	noHead(t, "one byte more", s+"\x00")
	noHead(t, "another byte more", s+"x")
	noHead(t, "two sectors", s+s)
	// A checksum that is right for more or fewer zeros makes no header either.
	bytes := headBytes('H', Head{Serial: 3, Base: 2, Prev: 1, Seq: 4})
	noHead(t, "63 summed bytes", summed(bytes+strings.Repeat("\x00", 59-len(bytes))))
	noHead(t, "65 summed bytes", summed(bytes+strings.Repeat("\x00", 61-len(bytes))))
	noHead(t, "no zeros", summed(bytes))
}

func TestGetHeadOfOtherSectors(t *testing.T) {
	noHead(t, "zeros", strings.Repeat("\x00", 64))
	noHead(t, "bytes of 255", strings.Repeat("\xff", 64))
	noHead(t, "noise", some(64))
	noHead(t, "zeros, summed", sectorOf(""))
	unit, _ := Put(Unit{Serial: 3, Seq: 4, Kind: 1, Body: some(43)})
	noHead(t, "a unit", unit)
	h := Head{Serial: 3, Base: 2, Prev: 1, Seq: 4}
	for b := range 256 {
		if b != 'H' {
			noHead(t, "another letter", sectorOf(headBytes(byte(b), h)))
		}
	}
	bytes := headBytes('H', h)
	for i := len(bytes); i < 60; i++ {
		noHead(t, "a byte behind the header", sectorOf(bytes+strings.Repeat("\x00", i-len(bytes))+"\x01"))
	}
}

func TestHeadBytesTell(t *testing.T) {
	for _, h := range heads() {
		s, _ := PutHead(h)
		for i := range 64 {
			for _, b := range []byte{1, 2, 0x40, 0x80, 0xff} {
				noHead(t, "a byte changed", s[:i]+string([]byte{s[i] ^ b})+s[i+1:])
			}
		}
		for at := range 61 {
			for _, m := range []uint32{math.MaxUint32, 0x01020304, 0x82F63B78} {
				if at > 0 && at < 4 {
					continue // part of the checksum and part of the rest
				}
				l := []byte(s)
				binary.BigEndian.PutUint32(l[at:], binary.BigEndian.Uint32(l[at:])^m)
				noHead(t, "four bytes changed", string(l))
			}
		}
	}
}
