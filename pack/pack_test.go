package pack

import (
	"math"
	"strings"
	"testing"
)

func want[T comparable](t *testing.T, what string, got, wanted T) {
	t.Helper()
	if got != wanted {
		t.Errorf("%s: got %#v, want %#v", what, got, wanted)
	}
}

// counts are counts, and their encodings.
func counts() map[uint64]string {
	return map[uint64]string{
		0:                  "\x00",
		1:                  "\x01",
		0x7f:               "\x7f",
		0x80:               "\x80\x01",
		300:                "\xac\x02",
		1<<14 - 1:          "\xff\x7f",
		1 << 14:            "\x80\x80\x01",
		1<<21 - 1:          "\xff\xff\x7f",
		1 << 28:            "\x80\x80\x80\x80\x01",
		1<<56 - 1:          "\xff\xff\xff\xff\xff\xff\xff\x7f",
		1 << 56:            "\x80\x80\x80\x80\x80\x80\x80\x80\x01",
		1<<63 - 1:          "\xff\xff\xff\xff\xff\xff\xff\xff\x7f",
		1 << 63:            "\x80\x80\x80\x80\x80\x80\x80\x80\x80\x01",
		math.MaxUint64 - 1: "\xfe\xff\xff\xff\xff\xff\xff\xff\xff\x01",
		math.MaxUint64:     "\xff\xff\xff\xff\xff\xff\xff\xff\xff\x01",
	}
}

// numbers are numbers, and their encodings.
func numbers() map[int64]string {
	return map[int64]string{
		0:                 "\x00",
		-1:                "\x01",
		1:                 "\x02",
		-2:                "\x03",
		63:                "\x7e",
		-64:               "\x7f",
		64:                "\x80\x01",
		-65:               "\x81\x01",
		150:               "\xac\x02",
		1 << 62:           "\x80\x80\x80\x80\x80\x80\x80\x80\x80\x01",
		math.MaxInt64:     "\xfe\xff\xff\xff\xff\xff\xff\xff\xff\x01",
		math.MinInt64:     "\xff\xff\xff\xff\xff\xff\xff\xff\xff\x01",
		math.MinInt64 + 1: "\xfd\xff\xff\xff\xff\xff\xff\xff\xff\x01",
	}
}

// texts are strings, and the encodings of the counts of their bytes.
func texts() map[string]string {
	return map[string]string{
		"":                          "\x00",
		"abc":                       "\x03",
		"\x00\xff\x80":              "\x03",
		"ä":                         "\x02",
		strings.Repeat("x", 0x7f):   "\x7f",
		strings.Repeat("x", 0x80):   "\x80\x01",
		strings.Repeat("\xff", 300): "\xac\x02",
	}
}

func TestCount(t *testing.T) {
	for n, s := range counts() {
		want(t, "Count", Count(n), s)
	}
	for i := range 64 {
		// A byte more for each seven bits.
		want(t, "bytes of a count", len(Count(1<<i)), i/7+1)
	}
}

func TestNumber(t *testing.T) {
	for n, s := range numbers() {
		want(t, "Number", Number(n), s)
	}
	for n := int64(0); n < 300; n++ {
		want(t, "Number of n", Number(n), Count(uint64(2*n)))
		want(t, "Number of -n - 1", Number(-n-1), Count(uint64(2*n+1)))
	}
}

func TestTruth(t *testing.T) {
	want(t, "Truth of false", Truth(false), "\x00")
	want(t, "Truth of true", Truth(true), "\x01")
}

func TestText(t *testing.T) {
	for s, count := range texts() {
		want(t, "Text", Text(s), count+s)
	}
}
