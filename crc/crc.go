// Package crc is layer 1: CRC-32C checksums of strings, and of strings put together.
// See shared/doc/01-crc.md.
package crc

// The register is a polynomial over the field of two elements, modulo the
// checksum's own: its highest bit is the factor of 1, its lowest that of x^31.
const (
	poly  = 0x82F63B78
	one   = 1 << 31
	byX8  = 1 << 23
	width = 32
)

// Sum returns the checksum of the bytes of s.
func Sum(s string) uint32 {
	r := ^uint32(0)
	for _, b := range []byte(s) {
		r = shiftByte(r ^ uint32(b))
	}
	return ^r
}

// Join returns the checksum of two strings put together, from the checksum of
// each and the length of the second.
func Join(a, b uint32, n int) uint32 {
	return times(a, power(n)) ^ b
}

// shift moves the register by one bit, which multiplies it by x.
func shift(r uint32) uint32 {
	if r&1 == 1 {
		return r>>1 ^ poly
	}
	return r >> 1
}

func shiftByte(r uint32) uint32 {
	for range 8 {
		r = shift(r)
	}
	return r
}

// power returns what n bytes' shift multiplies by. It squares, for n may be so
// great that shifting byte by byte would not end in any useful time.
func power(n int) uint32 {
	product, square := uint32(one), uint32(byX8)
	for ; n > 0; n >>= 1 {
		if n&1 == 1 {
			product = times(product, square)
		}
		square = times(square, square)
	}
	return product
}

// times returns the product of two polynomials, modulo the checksum's.
func times(a, b uint32) uint32 {
	product := uint32(0)
	for i := range width {
		if a>>(width-1-i)&1 == 1 {
			product ^= b
		}
		b = shift(b)
	}
	return product
}
