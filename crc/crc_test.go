package crc

import (
	"hash/crc32"
	"math"
	"strings"
	"testing"
)

// The shift's order: so many steps of the register leave it as it was, because
// the polynomial is x + 1 times a primitive one of degree 31.
const order = 1<<31 - 1

// some returns n bytes that follow a fixed rule and look like no pattern.
func some(n int) string {
	out := make([]byte, n)
	x := uint32(1)
	for i := range out {
		x = x*1664525 + 1013904223
		out[i] = byte(x >> 24)
	}
	return string(out)
}

// registers returns each register with one bit, and a few with more.
func registers() []uint32 {
	out := []uint32{0, math.MaxUint32, poly, 0xE3069283, 0x12345678}
	for i := range 32 {
		out = append(out, 1<<i)
	}
	return out
}

// slowly is P1.2's shift, bit by bit.
func slowly(r uint32, bits int) uint32 {
	for range bits {
		out := r & 1
		r >>= 1
		if out == 1 {
			r ^= 0x82F63B78
		}
	}
	return r
}

func TestSumKnown(t *testing.T) {
	rising, falling := "", ""
	for i := range 32 {
		rising += string([]byte{byte(i)})
		falling += string([]byte{byte(31 - i)})
	}
	for _, c := range []struct {
		s    string
		want uint32
	}{
		{"", 0},
		{"a", 0xC1D04330},
		{"123456789", 0xE3069283},
		{strings.Repeat("\x00", 32), 0x8A9136AA},
		{strings.Repeat("\xff", 32), 0x62A8AB43},
		{rising, 0x46DD794E},
		{falling, 0x113FDB5C},
	} {
		if got := Sum(c.s); got != c.want {
			t.Errorf("Sum(%q) = %08X, want %08X", c.s, got, c.want)
		}
	}
}

func TestSumAgainstLibrary(t *testing.T) {
	castagnoli := crc32.MakeTable(crc32.Castagnoli)
	text := some(300)
	for n := range len(text) + 1 {
		if got, want := Sum(text[:n]), crc32.Checksum([]byte(text[:n]), castagnoli); got != want {
			t.Errorf("Sum of %d bytes = %08X, want %08X", n, got, want)
		}
	}
	for b := range 256 {
		one := []byte{byte(b)}
		if got, want := Sum(string(one)), crc32.Checksum(one, castagnoli); got != want {
			t.Errorf("Sum of the byte %d = %08X, want %08X", b, got, want)
		}
	}
}

func TestJoinShifts(t *testing.T) {
	for _, a := range registers() {
		for n := range 70 {
			if got, want := Join(a, 0, n), slowly(a, 8*n); got != want {
				t.Errorf("Join(%08X, 0, %d) = %08X, want %08X", a, n, got, want)
			}
			b := a*3 + 7
			if got, want := Join(a, b, n), slowly(a, 8*n)^b; got != want {
				t.Errorf("Join(%08X, %08X, %d) = %08X, want %08X", a, b, n, got, want)
			}
		}
	}
}

func TestJoinNegative(t *testing.T) {
	for _, a := range registers() {
		for _, n := range []int{0, -1, -2, -8, -1 << 31, math.MinInt + 1, math.MinInt} {
			if got, want := Join(a, 0xABCDEF01, n), a^0xABCDEF01; got != want {
				t.Errorf("Join(%08X, .., %d) = %08X, want %08X", a, n, got, want)
			}
		}
	}
}

func TestJoinGreat(t *testing.T) {
	for _, a := range registers() {
		for _, c := range []struct{ n, same int }{
			{100000, 100000},
			{order, 0},
			{order + 5, 5},
			{1 << 31, 1},
			{1 << 32, 2},
			{1 << 62, 1},
			{math.MaxInt, 1},
			{math.MaxInt - 1, 0},
			{math.MaxInt - order, 1},
		} {
			if got, want := Join(a, 9, c.n), slowly(a, 8*c.same)^9; got != want {
				t.Errorf("Join(%08X, 9, %d) = %08X, want %08X", a, c.n, got, want)
			}
		}
	}
}

func TestJoinOfSums(t *testing.T) {
	text := some(100)
	for end := range len(text) + 1 {
		for cut := range end + 1 {
			a, b := text[:cut], text[cut:end]
			if got, want := Join(Sum(a), Sum(b), len(b)), Sum(a+b); got != want {
				t.Errorf("Join of %d and %d bytes = %08X, want %08X", len(a), len(b), got, want)
			}
		}
	}
	if got := Join(Sum("1234"), Sum("56789"), 5); got != 0xE3069283 {
		t.Errorf("Join of the digits = %08X", got)
	}
	long := some(70000)
	if got, want := Join(Sum(long[:9]), Sum(long[9:]), len(long)-9), Sum(long); got != want {
		t.Errorf("Join of 9 and %d bytes = %08X, want %08X", len(long)-9, got, want)
	}
}

func TestFourBytesTell(t *testing.T) {
	text := some(70)
	was := Sum(text)
	differences := registers()[1:]
	for i := range 200 {
		differences = append(differences, uint32(i+1)*0x9E3779B1)
	}
	for at := range len(text) - 3 {
		for _, d := range differences {
			l := []byte(text)
			for i := range 4 {
				l[at+i] ^= byte(d >> (8 * i))
			}
			if Sum(string(l)) == was {
				t.Errorf("Sum does not tell the difference %08X at byte %d", d, at)
			}
		}
	}
}
