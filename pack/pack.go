// Package pack is layer 2: numbers, booleans and strings as bytes, with exactly
// one encoding for each. See shared/doc/02-pack.md.
package pack

import "math/bits"

const (
	mostBytes = 10   // a count of 64 bits, seven of them in each byte
	more      = 0x80 // the bit of each byte of a count but the last
)

// Count returns the encoding of a count.
func Count(n uint64) string {
	size := countSize(n)
	out := make([]byte, size)
	for i := range size {
		out[i] = byte(n) | more
		n >>= 7
	}
	out[size-1] &^= more
	return string(out)
}

// countSize returns how many bytes the encoding of n has: nought has one too.
func countSize(n uint64) int {
	return (bits.Len64(n|1) + 6) / 7
}

// Number returns the encoding of a number.
func Number(n int64) string {
	if n < 0 {
		// -2n - 1, written so that the least number does not overflow.
		return Count(2*uint64(^n) + 1)
	}
	return Count(2 * uint64(n))
}

// Truth returns the encoding of a boolean.
func Truth(b bool) string {
	if b {
		return "\x01"
	}
	return "\x00"
}

// Text returns the encoding of a string.
func Text(s string) string {
	return Count(uint64(len(s))) + s
}
