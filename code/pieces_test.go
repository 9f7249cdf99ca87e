package code

import (
	"encoding/binary"
	"reflect"
	"strings"

	"switchyard/api"
)

// order is the fields of the objects, in the order that the chapter tells.
var order = map[string]string{
	"Mail":  "ID Channel Key Fields",
	"Item":  "ID Since Type State Attrs Counts Box",
	"Dead":  "N Mail Reason",
	"Event": "N Tick Item Name Type State Attrs",
	"Sub":   "ID Past Role",
}

// fault is bytes that may not stand where a piece stands, and their error,
// which does not hang on what stands behind them.
type fault struct {
	text string
	bad  api.Errno
}

// piece is bytes of an encoding that are read at once.
type piece struct {
	text   string
	faults []fault
}

// pieces is an encoding, made by the words of the chapter, not by the package.
type pieces []piece

func piecesOf(x any) pieces {
	var p pieces
	p.object(reflect.ValueOf(x))
	return p
}

func (p pieces) text() string {
	var out strings.Builder
	for _, one := range p {
		out.WriteString(one.text)
	}
	return out.String()
}

func (p *pieces) add(text string, faults ...fault) {
	*p = append(*p, piece{text, faults})
}

func varint(n uint64) string { return string(binary.AppendUvarint(nil, n)) }

// longer is a count with a byte more than is necessary.
func longer(s string) string {
	return s[:len(s)-1] + string([]byte{s[len(s)-1] | 0x80}) + "\x00"
}

// noCounts is what stands for a count of s, and is none.
func noCounts(s string) []fault {
	return []fault{
		{longer(s), api.ErrForm},
		{strings.Repeat("\x80", 10), api.ErrForm},
		{strings.Repeat("\xff", 9) + "\x02", api.ErrForm},
	}
}

func (p *pieces) number(n int64) {
	s := string(binary.AppendVarint(nil, n))
	p.add(s, noCounts(s)...)
}

// tooLarge is counts that are greater than most.
func tooLarge(most int) []fault {
	return []fault{
		{varint(uint64(most) + 1), api.ErrLong},
		{varint(1<<32 + uint64(most)), api.ErrLong},
		{varint(1<<64 - 1), api.ErrLong},
		{longer(varint(uint64(most) + 1)), api.ErrForm},
	}
}

func (p *pieces) count(n, most int) {
	s := varint(uint64(n))
	p.add(s, append(noCounts(s), tooLarge(most)...)...)
}

// string adds a string of at most so many bytes, with what else is wrong in
// its place.
func (p *pieces) string(s string, most int, faults ...fault) {
	size := varint(uint64(len(s)))
	all := append(noCounts(size), tooLarge(most)...)
	p.add(size+s, append(all, faults...)...)
}

// noNames is strings that are no names, and short enough.
func noNames() []fault {
	var out []fault
	for _, s := range []string{"", "1", "_", "_a", "a-", "a b", "a\x00", "\xffa", "\xc3\xa9", "'a", strings.Repeat("a", 23) + "."} {
		out = append(out, fault{varint(uint64(len(s))) + s, api.ErrForm})
	}
	return out
}

// noKinds is every byte that is no Kind.
func noKinds() []fault {
	var out []fault
	for b := 6; b < 256; b++ {
		out = append(out, fault{string([]byte{byte(b)}), api.ErrForm})
	}
	return out
}

func noTruths() []fault {
	var out []fault
	for b := 2; b < 256; b++ {
		out = append(out, fault{string([]byte{byte(b)}), api.ErrForm})
	}
	return out
}

func (p *pieces) value(v api.Value) {
	p.add(string([]byte{byte(v.Kind)}), noKinds()...)
	switch v.Kind {
	case 1:
		p.number(v.Num)
	case 2:
		p.add(string([]byte{byte(v.Num)}), noTruths()...)
	case 3:
		p.string(v.Text, 64)
	case 4:
		p.string(v.Text, 24, noNames()...)
	case 5:
		p.count(len(v.List), 16)
		for _, n := range v.List {
			p.number(n)
		}
	}
}

func (p *pieces) object(v reflect.Value) {
	if one, is := v.Interface().(api.Value); is {
		p.value(one)
		return
	}
	for _, name := range strings.Fields(order[v.Type().Name()]) {
		p.field(v.FieldByName(name))
	}
}

func (p *pieces) field(v reflect.Value) {
	switch one := v.Interface().(type) {
	case int64:
		p.number(one)
	case string:
		p.string(one, 24)
	case int:
		p.count(one, 5)
	case api.Mail:
		p.object(v)
	case []int:
		p.count(len(one), 16)
		for _, n := range one {
			p.count(n, 1000)
		}
	case []api.Value:
		p.count(len(one), 16)
		p.elements(v)
	case []api.Mail:
		p.count(len(one), 4096)
		p.elements(v)
	}
}

func (p *pieces) elements(v reflect.Value) {
	for i := range v.Len() {
		p.object(v.Index(i))
	}
}
