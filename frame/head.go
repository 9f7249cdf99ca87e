package frame

import "switchyard/api"

const letter = "H"

// Where the parts of a header begin, behind its checksum and its letter.
const (
	headBytesAt  = 4
	headSerialAt = 5
	baseAt       = 9
	prevAt       = 13
	headSeqAt    = 17
	headEnd      = 25
)

// Head is the beginning of a segment.
type Head struct {
	Serial, Base, Prev uint32
	Seq                uint64
}

// PutHead returns the sector of a header.
func PutHead(h Head) (string, api.Errno) {
	if !sound(h) {
		return "", api.ErrArg
	}
	s := letter + digits(uint64(h.Serial), 4) + digits(uint64(h.Base), 4) + digits(uint64(h.Prev), 4) + digits(h.Seq, 8)
	s = fill(s, api.Sector-headBytesAt)
	return checksum(s) + s, api.OK
}

// GetHead returns the header whose sector is s, if s is one.
func GetHead(s string) (Head, bool) {
	if len(s) != api.Sector {
		return Head{}, false
	}
	h := Head{
		Serial: uint32(number(s[headSerialAt:baseAt])),
		Base:   uint32(number(s[baseAt:prevAt])),
		Prev:   uint32(number(s[prevAt:headSeqAt])),
		Seq:    number(s[headSeqAt:headEnd]),
	}
	// A header has one sector alone, so s is it or it is none.
	if again, bad := PutHead(h); bad != api.OK || again != s {
		return Head{}, false
	}
	return h, true
}

// sound tells whether these numbers may be a header's. The bounds of Base are
// those of Serial too.
func sound(h Head) bool {
	return h.Base >= 1 && h.Base <= h.Serial && h.Prev < h.Serial
}
