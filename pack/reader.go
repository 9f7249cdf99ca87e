package pack

import (
	"strings"

	"switchyard/api"
)

// Reader decodes values, one behind the other. It keeps the first error.
type Reader struct {
	rest string
	bad  api.Errno
}

// New returns a reader at the beginning of s.
func New(s string) *Reader {
	return &Reader{rest: s}
}

// Count decodes a count.
func (r *Reader) Count() uint64 {
	return read(r, decodeCount)
}

// Number decodes a number.
func (r *Reader) Number() int64 {
	return read(r, decodeNumber)
}

// Truth decodes a boolean.
func (r *Reader) Truth() bool {
	return read(r, decodeTruth)
}

// Text decodes a string of at most so many bytes.
func (r *Reader) Text(most int) string {
	return read(r, func(s string) (string, int, api.Errno) { return decodeText(s, most) })
}

// Small decodes a count that is at most so great.
func (r *Reader) Small(most int) int {
	return read(r, func(s string) (int, int, api.Errno) { return decodeSmall(s, most) })
}

// Byte decodes one byte.
func (r *Reader) Byte() int {
	return read(r, decodeByte)
}

// Bad returns the first error, or OK.
func (r *Reader) Bad() api.Errno {
	if r == nil {
		return api.ErrNil
	}
	return r.bad
}

// End returns the first error, or ErrForm if bytes are left. The latter is not
// kept: who asks too early may still read on.
func (r *Reader) End() api.Errno {
	if bad := r.Bad(); bad != api.OK {
		return bad
	}
	if len(r.rest) > 0 {
		return api.ErrForm
	}
	return api.OK
}

// Left returns how many bytes are left, none after an error.
func (r *Reader) Left() int {
	if r.Bad() != api.OK {
		return 0
	}
	return len(r.rest)
}

// read decodes a value and moves behind it, or keeps the error and stays.
func read[T any](r *Reader, decode func(string) (T, int, api.Errno)) T {
	var zero T
	if r.Bad() != api.OK {
		return zero
	}
	v, size, bad := decode(r.rest)
	if bad != api.OK {
		r.bad = bad
		return zero
	}
	r.rest = r.rest[size:]
	return v
}

// The functions below decode the value that s begins with, and tell how many
// bytes its encoding has. Beside an error the other results mean nothing.

func decodeCount(s string) (uint64, int, api.Errno) {
	n := uint64(0)
	for i := range mostBytes {
		if i == len(s) {
			return 0, 0, api.ErrShort
		}
		n |= uint64(s[i]&^more) << (7 * i)
		if s[i] < more {
			return n, i + 1, lastByte(i, s[i])
		}
	}
	return 0, 0, api.ErrForm
}

// lastByte returns ErrForm if a count can't end with b as its byte i: a nought
// at the end is one byte too many, and the tenth byte has room for one bit.
func lastByte(i int, b byte) api.Errno {
	if i > 0 && b == 0 || i == mostBytes-1 && b > 1 {
		return api.ErrForm
	}
	return api.OK
}

func decodeNumber(s string) (int64, int, api.Errno) {
	n, size, bad := decodeCount(s)
	half := int64(n >> 1)
	if n&1 == 1 {
		half = ^half
	}
	return half, size, bad
}

func decodeByte(s string) (int, int, api.Errno) {
	if s == "" {
		return 0, 0, api.ErrShort
	}
	return int(s[0]), 1, api.OK
}

func decodeTruth(s string) (bool, int, api.Errno) {
	b, size, bad := decodeByte(s)
	if b > 1 {
		return false, 0, api.ErrForm
	}
	return b == 1, size, bad
}

func decodeSmall(s string, most int) (int, int, api.Errno) {
	n, size, bad := decodeCount(s)
	if bad != api.OK {
		return 0, 0, bad
	}
	if most < 0 || n > uint64(most) {
		return 0, 0, api.ErrLong
	}
	return int(n), size, api.OK
}

func decodeText(s string, most int) (string, int, api.Errno) {
	n, size, bad := decodeSmall(s, most)
	if bad != api.OK {
		return "", 0, bad
	}
	if n > len(s)-size {
		return "", 0, api.ErrShort
	}
	// A copy, for a piece of s would keep all of it in memory.
	return strings.Clone(s[size : size+n]), size + n, api.OK
}
