package pack

import (
	"math"
	"strings"
	"testing"

	"switchyard/api"
)

// outcome is what came of reading by a method.
type outcome struct {
	name string
	zero bool // whether it answered its zero value
	bad  api.Errno
}

// each reads s by every decoding method, each time with a new reader, and
// tells what came of it.
func each(s string, most int) []outcome {
	var out []outcome
	tell := func(name string, read func(r *Reader) bool) {
		r := New(s)
		zero := read(r)
		out = append(out, outcome{name, zero, r.Bad()})
	}
	tell("Count", func(r *Reader) bool { return r.Count() == 0 })
	tell("Number", func(r *Reader) bool { return r.Number() == 0 })
	tell("Truth", func(r *Reader) bool { return !r.Truth() })
	tell("Text", func(r *Reader) bool { return r.Text(most) == "" })
	tell("Small", func(r *Reader) bool { return r.Small(most) == 0 })
	tell("Byte", func(r *Reader) bool { return r.Byte() == 0 })
	return out
}

// done checks that a reader is at its end, without an error.
func done(t *testing.T, what string, r *Reader) {
	t.Helper()
	want(t, what+", Bad", r.Bad(), api.OK)
	want(t, what+", End", r.End(), api.OK)
	want(t, what+", Left", r.Left(), 0)
}

// stopped checks that a reader has an error, and answers nothing but it.
func stopped(t *testing.T, what string, r *Reader, bad api.Errno) {
	t.Helper()
	want(t, what+", Bad", r.Bad(), bad)
	want(t, what+", End", r.End(), bad)
	want(t, what+", Left", r.Left(), 0)
	want(t, what+", Count", r.Count(), 0)
	want(t, what+", Number", r.Number(), 0)
	want(t, what+", Truth", r.Truth(), false)
	want(t, what+", Text", r.Text(9), "")
	want(t, what+", Text of none", r.Text(-1), "")
	want(t, what+", Small", r.Small(9), 0)
	want(t, what+", Small of none", r.Small(-1), 0)
	want(t, what+", Byte", r.Byte(), 0)
	want(t, what+", Bad again", r.Bad(), bad)
	want(t, what+", End again", r.End(), bad)
	want(t, what+", Left again", r.Left(), 0)
}

func TestReadBack(t *testing.T) {
	for n, s := range counts() {
		r := New(s)
		want(t, "Count", r.Count(), n)
		done(t, "Count", r)
	}
	for n, s := range numbers() {
		r := New(s)
		want(t, "Number", r.Number(), n)
		done(t, "Number", r)
	}
	for text, count := range texts() {
		r := New(count + text)
		want(t, "Text", r.Text(len(text)), text)
		done(t, "Text", r)
	}
	for b := range 256 {
		r := New(string([]byte{byte(b)}))
		want(t, "Byte", r.Byte(), b)
		done(t, "Byte", r)
	}
}

func TestReadInTurn(t *testing.T) {
	all := Count(math.MaxUint64) + Number(math.MinInt64) + Truth(true) + Text("abc") + "\xfe" + Count(300) + Truth(false) + Text("") + Number(-1)
	r := New(all)
	left := len(all)
	behind := func(what string, size int) {
		t.Helper()
		left -= size
		want(t, what+", Left", r.Left(), left)
		want(t, what+", Bad", r.Bad(), api.OK)
	}
	behind("New", 0)
	want(t, "Count", r.Count(), math.MaxUint64)
	behind("Count", 10)
	want(t, "Number", r.Number(), math.MinInt64)
	behind("Number", 10)
	want(t, "Truth", r.Truth(), true)
	behind("Truth", 1)
	want(t, "Text", r.Text(3), "abc")
	behind("Text", 4)
	want(t, "Byte", r.Byte(), 0xfe)
	behind("Byte", 1)
	want(t, "Small", r.Small(300), 300)
	behind("Small", 2)
	want(t, "End in the middle", r.End(), api.ErrForm)
	behind("End in the middle", 0)
	want(t, "Truth of false", r.Truth(), false)
	behind("Truth of false", 1)
	want(t, "Text of nothing", r.Text(0), "")
	behind("Text of nothing", 1)
	want(t, "last Number", r.Number(), -1)
	done(t, "all", r)
}

func TestWrongCounts(t *testing.T) {
	for s, bad := range map[string]api.Errno{
		"":                                     api.ErrShort,
		"\x80":                                 api.ErrShort,
		"\xff\xff":                             api.ErrShort,
		strings.Repeat("\x80", 8):              api.ErrShort,
		strings.Repeat("\xff", 9):              api.ErrShort,
		strings.Repeat("\x80", 9):              api.ErrShort,
		strings.Repeat("\xff", 10):             api.ErrForm, // cut short, but too long all the same
		strings.Repeat("\x80", 10):             api.ErrForm,
		strings.Repeat("\x80", 11):             api.ErrForm,
		strings.Repeat("\x80", 10) + "\x01":    api.ErrForm,
		strings.Repeat("\xff", 40) + "\x00":    api.ErrForm,
		strings.Repeat("\xff", 9) + "\x02":     api.ErrForm, // greater than the largest one
		strings.Repeat("\xff", 9) + "\x03":     api.ErrForm,
		strings.Repeat("\x80", 9) + "\x02":     api.ErrForm,
		strings.Repeat("\x80", 9) + "\x40":     api.ErrForm,
		strings.Repeat("\xff", 9) + "\x7f":     api.ErrForm,
		strings.Repeat("\x80", 9) + "\x00":     api.ErrForm, // more bytes than necessary
		strings.Repeat("\xff", 9) + "\x00":     api.ErrForm,
		"\x80\x00":                             api.ErrForm,
		"\xff\x00":                             api.ErrForm,
		"\x80\x80\x00":                         api.ErrForm,
		"\x81\x80\x00\x01":                     api.ErrForm,
		strings.Repeat("\x80", 8) + "\x00":     api.ErrForm,
		strings.Repeat("\x80", 8) + "\x00abcd": api.ErrForm,
	} {
		for _, m := range each(s, math.MaxInt) {
			if m.name == "Truth" || m.name == "Byte" {
				continue
			}
			if m.bad != bad || !m.zero {
				t.Errorf("%s of %q: error %d, want %d; zero value: %v", m.name, s, m.bad, bad, m.zero)
			}
		}
	}
}

func TestWrongTruths(t *testing.T) {
	for b := 2; b < 256; b++ {
		r := New(string([]byte{byte(b), 1}))
		want(t, "Truth", r.Truth(), false)
		stopped(t, "Truth of a greater byte", r, api.ErrForm)
	}
	r := New("")
	want(t, "Truth of nothing", r.Truth(), false)
	stopped(t, "Truth of nothing", r, api.ErrShort)
}

func TestWrongByte(t *testing.T) {
	r := New("")
	want(t, "Byte of nothing", r.Byte(), 0)
	stopped(t, "Byte of nothing", r, api.ErrShort)
}

func TestSmall(t *testing.T) {
	for _, c := range []struct {
		n    uint64
		most int
		want int
		bad  api.Errno
	}{
		{0, 0, 0, api.OK},
		{1, 0, 0, api.ErrLong},
		{300, 300, 300, api.OK},
		{300, 299, 0, api.ErrLong},
		{300, 1000, 300, api.OK},
		{math.MaxInt, math.MaxInt, math.MaxInt, api.OK},
		{math.MaxInt, math.MaxInt - 1, 0, api.ErrLong},
		{math.MaxInt + 1, math.MaxInt, 0, api.ErrLong},
		{math.MaxUint64, math.MaxInt, 0, api.ErrLong},
		{0, -1, 0, api.ErrLong}, // below nought, every count is too great
		{5, -1, 0, api.ErrLong},
		{math.MaxUint64, -1, 0, api.ErrLong},
		{math.MaxUint64 - 4, -5, 0, api.ErrLong},
		{0, math.MinInt, 0, api.ErrLong},
		{1 << 63, math.MinInt, 0, api.ErrLong},
	} {
		r := New(Count(c.n) + "z")
		want(t, "Small", r.Small(c.most), c.want)
		if c.bad != api.OK {
			stopped(t, "Small", r, c.bad)
			continue
		}
		want(t, "Left behind Small", r.Left(), 1)
		want(t, "Byte behind Small", r.Byte(), 'z')
	}
}

func TestTextMost(t *testing.T) {
	for _, c := range []struct {
		s    string
		most int
		want string
		bad  api.Errno
	}{
		{"\x00z", 0, "", api.OK},
		{"\x00z", 5, "", api.OK},
		{"\x00z", -1, "", api.ErrLong},
		{"\x00", -1, "", api.ErrLong},
		{"\x03abcz", 3, "abc", api.OK},
		{"\x03abcz", math.MaxInt, "abc", api.OK},
		{"\x03abcz", 2, "", api.ErrLong},
		{"\x03abcz", 0, "", api.ErrLong},
		{"\x03abcz", -1, "", api.ErrLong},
		{"\x03abcz", math.MinInt, "", api.ErrLong},
		{"\x03ab", 3, "", api.ErrShort},
		{"\x03", 3, "", api.ErrShort},
		{"\x03ab", 2, "", api.ErrLong}, // ahead of ErrShort
		{"\x03", -1, "", api.ErrLong},
		{"", -1, "", api.ErrShort}, // but behind the count
		{"\x83", -1, "", api.ErrShort},
		{"\x83\x00abc", -1, "", api.ErrForm},
		{"\x83\x00abc", 2, "", api.ErrForm},
		{Count(math.MaxInt) + "z", math.MaxInt, "", api.ErrShort},
		{Count(math.MaxInt+1) + "z", math.MaxInt, "", api.ErrLong},
		{Count(math.MaxUint64) + "z", math.MaxInt, "", api.ErrLong},
		{Count(math.MaxUint64) + "z", -1, "", api.ErrLong},
	} {
		r := New(c.s)
		want(t, "Text", r.Text(c.most), c.want)
		if c.bad != api.OK {
			stopped(t, "Text", r, c.bad)
			continue
		}
		want(t, "Left behind Text", r.Left(), 1)
		want(t, "Byte behind Text", r.Byte(), 'z')
	}
}

func TestErrorsAreKept(t *testing.T) {
	for _, c := range []struct {
		s    string
		read func(r *Reader)
		bad  api.Errno
	}{
		{"\x80\x00\x01\x01", func(r *Reader) { r.Count() }, api.ErrForm},
		{"\x80\x00\x01\x01", func(r *Reader) { r.Number() }, api.ErrForm},
		{"\x02\x01\x01\x01", func(r *Reader) { r.Truth() }, api.ErrForm},
		{"\x02\x01\x01\x01", func(r *Reader) { r.Text(1) }, api.ErrLong},
		{"\x09\x01\x01\x01", func(r *Reader) { r.Text(9) }, api.ErrShort},
		{"\x02\x01\x01\x01", func(r *Reader) { r.Small(1) }, api.ErrLong},
		{"\x80", func(r *Reader) { r.Count() }, api.ErrShort},
		{"", func(r *Reader) { r.Byte() }, api.ErrShort},
		{"\x01", func(r *Reader) { r.Byte(); r.Byte() }, api.ErrShort},
		{"\x02\x02", func(r *Reader) { r.Truth(); r.Small(1) }, api.ErrForm}, // the first one
		{"\x02\x02", func(r *Reader) { r.Small(1); r.Truth() }, api.ErrLong},
	} {
		r := New(c.s)
		c.read(r)
		stopped(t, "after an error", r, c.bad)
	}
}

func TestEndIsNotKept(t *testing.T) {
	r := New("\x05\x06")
	for range 2 {
		want(t, "End", r.End(), api.ErrForm)
		want(t, "Bad", r.Bad(), api.OK)
		want(t, "Left", r.Left(), 2)
	}
	want(t, "Byte", r.Byte(), 5)
	want(t, "End again", r.End(), api.ErrForm)
	want(t, "Byte again", r.Byte(), 6)
	done(t, "all", r)
	r.Byte()
	stopped(t, "behind the end", r, api.ErrShort)
}

func TestNothing(t *testing.T) {
	r := New("")
	done(t, "nothing", r)
	for _, m := range each("", 9) {
		if m.bad != api.ErrShort || !m.zero {
			t.Errorf("%s of nothing: error %d", m.name, m.bad)
		}
	}
}

func TestNilReader(t *testing.T) {
	var r *Reader
	stopped(t, "nil", r, api.ErrNil)
}

func TestReadersApart(t *testing.T) {
	a, b := New("\x01\x02"), New("\x01\x02")
	a.Byte()
	a.Truth()
	stopped(t, "one reader", a, api.ErrForm)
	want(t, "another one's Left", b.Left(), 2)
	want(t, "another one's Byte", b.Byte(), 1)
}

// TestOneEncoding decodes all strings of up to three bytes, and those around
// the greatest counts: what is decoded has the bytes that were read, no others.
func TestOneEncoding(t *testing.T) {
	nines := []string{strings.Repeat("\x80", 8), strings.Repeat("\xff", 8)}
	for i := range 1 << 16 {
		short := string([]byte{byte(i), byte(i >> 8)})
		oneEncoding(t, short[:1])
		oneEncoding(t, short)
		oneEncoding(t, short+"\x01")
		oneEncoding(t, "\x81"+short)
		for _, nine := range nines {
			oneEncoding(t, nine+short)
		}
	}
}

func oneEncoding(t *testing.T, s string) {
	t.Helper()
	read := func(what string, decode func(r *Reader) string) {
		t.Helper()
		r := New(s)
		again := decode(r)
		if r.Bad() == api.OK && again != s[:len(s)-r.Left()] {
			t.Errorf("%s of %q: encoded again it is %q", what, s, again)
		}
	}
	read("Count", func(r *Reader) string { return Count(r.Count()) })
	read("Small", func(r *Reader) string { return Count(uint64(r.Small(math.MaxInt))) })
	read("Number", func(r *Reader) string { return Number(r.Number()) })
	read("Truth", func(r *Reader) string { return Truth(r.Truth()) })
	read("Text", func(r *Reader) string { return Text(r.Text(9)) })
}

// TestEveryCallEnds reads odd inputs by every method, with every odd most.
func TestEveryCallEnds(t *testing.T) {
	inputs := []string{"", "\x00", "\x01", "\x7f", "\x80", "\xff", "\x80\x00", strings.Repeat("\xff", 9) + "\x01", strings.Repeat("\xff", 8) + "\x7f", strings.Repeat("\xff", 50), strings.Repeat("\x00", 50)}
	for _, s := range inputs {
		for _, most := range []int{math.MinInt, -1, 0, 1, 64, math.MaxInt} {
			for _, m := range each(s, most) {
				if m.bad != api.OK && !m.zero {
					t.Errorf("%s(%d) of %q: a value beside error %d", m.name, most, s, m.bad)
				}
			}
		}
	}
}
