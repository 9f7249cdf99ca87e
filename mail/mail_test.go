package mail

import (
	"math"
	"reflect"
	"slices"
	"testing"

	"switchyard/api"
)

func want[T comparable](t *testing.T, what string, got, wanted T) {
	t.Helper()
	if got != wanted {
		t.Errorf("%s: got %#v, want %#v", what, got, wanted)
	}
}

// same checks that two things are equal. A nil slice is an empty one.
func same(t *testing.T, what string, got, wanted any) {
	t.Helper()
	if !equal(reflect.ValueOf(got), reflect.ValueOf(wanted)) {
		t.Errorf("%s:\n got %+v\nwant %+v", what, got, wanted)
	}
}

func equal(a, b reflect.Value) bool {
	if a.Type() != b.Type() {
		return false
	}
	switch a.Kind() {
	case reflect.Struct:
		for i := range a.NumField() {
			if !equal(a.Field(i), b.Field(i)) {
				return false
			}
		}
		return true
	case reflect.Slice:
		if a.Len() != b.Len() {
			return false
		}
		for i := range a.Len() {
			if !equal(a.Index(i), b.Index(i)) {
				return false
			}
		}
		return true
	}
	return a.Interface() == b.Interface()
}

func num(n int64) api.Value          { return api.Value{Kind: api.Int, Num: n} }
func text(s string) api.Value        { return api.Value{Kind: api.Text, Text: s} }
func sym(s string) api.Value         { return api.Value{Kind: api.Sym, Text: s} }
func list(l ...int64) api.Value      { return api.Value{Kind: api.List, List: l} }
func row(l ...api.Value) []api.Value { return l }

// messages are of all sorts, among them some that no channel would carry.
func messages() []api.Mail {
	return []api.Mail{
		{ID: 1, Channel: "ask", Key: row(num(7)), Fields: row(text("t"), list(1, 2, 3))},
		{},
		{ID: 2, Channel: "told"},
		{ID: -3, Key: row(sym("red"), list(), num(math.MinInt64))},
		{ID: math.MaxInt64, Channel: "ask", Fields: row(list(), api.Value{Kind: api.List}, list(0))},
		{ID: math.MinInt64, Channel: "a b\x00\xff", Key: row(api.Value{Kind: 99, Num: 3, Text: "x", List: []int64{4}}), Fields: row(api.Value{})},
		{ID: 1, Channel: "ask", Key: row(num(7)), Fields: row(text("t"), list(1, 2, 3))},
		{Key: []api.Value{}, Fields: []api.Value{}},
	}
}

// ids are messages that have nothing but an ID.
func ids(l ...int64) []api.Mail {
	var out []api.Mail
	for _, id := range l {
		out = append(out, api.Mail{ID: id})
	}
	return out
}

// holds checks that a queue has these messages, and room for so many more.
func holds(t *testing.T, what string, b *Box, room int, l ...api.Mail) {
	t.Helper()
	want(t, what+": Len", b.Len(), len(l))
	want(t, what+": Room", b.Room(), room)
	same(t, what+": All", b.All(), l)
	same(t, what+": All again", b.All(), l)
	want(t, what+": Len behind All", b.Len(), len(l))
	want(t, what+": Room behind All", b.Room(), room)
}

// takes checks that a queue's messages are these.
func takes(t *testing.T, what string, b *Box, l ...api.Mail) {
	t.Helper()
	for _, m := range l {
		got, found := b.Take()
		want(t, what+": Take", found, true)
		same(t, what+": Take", got, m)
	}
	got, found := b.Take()
	want(t, what+": Take of none", found, false)
	same(t, what+": Take of none", got, api.Mail{})
}

// sizes are numbers of messages, and how many fit if there are to be at most
// so many.
var sizes = []struct{ most, room int }{
	{math.MinInt, 0}, {math.MinInt + 1, 0}, {-api.MaxBound, 0}, {-2, 0}, {-1, 0},
	{0, 0}, {1, 1}, {2, 2}, {3, 3}, {7, 7}, {64, 64},
	{api.MaxBound - 1, api.MaxBound - 1}, {api.MaxBound, api.MaxBound},
	{api.MaxBound + 1, api.MaxBound}, {2 * api.MaxBound, api.MaxBound}, {math.MaxInt - 1, api.MaxBound}, {math.MaxInt, api.MaxBound},
}

// TestExample: P18.1, that of the chapter.
func TestExample(t *testing.T) {
	b := New(2)
	l := ids(1, 2, 3)
	want(t, "Offer a", b.Offer(l[0]), true)
	want(t, "Offer b", b.Offer(l[1]), true)
	want(t, "Offer c", b.Offer(l[2]), false)
	m, found := b.Take()
	want(t, "Take", found, true)
	same(t, "Take", m, l[0])
	want(t, "Offer c", b.Offer(l[2]), true)
	same(t, "All", b.All(), l[1:])
}

// TestNew: P18.1, how many messages a queue has room for.
func TestNew(t *testing.T) {
	for _, s := range sizes {
		b := New(s.most)
		holds(t, "New", b, s.room)
		takes(t, "New", b)
		var l []api.Mail
		for i := range s.room {
			want(t, "Offer", b.Offer(api.Mail{ID: int64(i)}), true)
			want(t, "Len", b.Len(), i+1)
			want(t, "Room", b.Room(), s.room-i-1)
			l = append(l, api.Mail{ID: int64(i)})
		}
		for range 3 {
			want(t, "Offer to a full one", b.Offer(api.Mail{ID: -1}), false)
			holds(t, "full", b, 0, l...)
		}
		takes(t, "full", b, l...)
		holds(t, "emptied", b, s.room)
	}
}

// TestMessages: P18.1, messages of all sorts are what they were.
func TestMessages(t *testing.T) {
	l := messages()
	b := New(len(l) + 1)
	for i, m := range l {
		want(t, "Offer", b.Offer(m), true)
		holds(t, "Offer", b, len(l)-i, l[:i+1]...)
	}
	for i, m := range l {
		got, found := b.Take()
		want(t, "Take", found, true)
		same(t, "Take", got, m)
		holds(t, "Take", b, i+2, l[i+1:]...)
	}
	takes(t, "emptied", b)
	holds(t, "emptied", b, len(l)+1)
}

// TestTurns: P18.3, messages are offered and taken by turns, more often than
// there is room.
func TestTurns(t *testing.T) {
	for room := 1; room <= 5; room++ {
		for kept := range room {
			b := New(room)
			var in, out int64
			for range kept {
				b.Offer(api.Mail{ID: in})
				in++
			}
			for range 4 * room {
				want(t, "Offer", b.Offer(api.Mail{ID: in}), true)
				in++
				m, found := b.Take()
				want(t, "Take", found, true)
				same(t, "Take", m, api.Mail{ID: out})
				out++
				want(t, "Len", b.Len(), kept)
				want(t, "Room", b.Room(), room-kept)
			}
		}
	}
}

// TestTwice: P18.3, a message that was offered twice is taken twice.
func TestTwice(t *testing.T) {
	m := messages()[0]
	b := New(3)
	b.Offer(m)
	b.Offer(m)
	holds(t, "twice", b, 1, m, m)
	takes(t, "twice", b, m, m)
}

// TestRefused: P18.3, a message that found no room is not taken later.
func TestRefused(t *testing.T) {
	b := New(1)
	b.Offer(api.Mail{ID: 1})
	want(t, "Offer to a full one", b.Offer(api.Mail{ID: 2}), false)
	takes(t, "the first", b, ids(1)...)
	want(t, "Offer", b.Offer(api.Mail{ID: 3}), true)
	takes(t, "the third", b, ids(3)...)
}

// TestAll: P18.1, it removes nothing and keeps the order, wherever in its room
// a queue begins.
func TestAll(t *testing.T) {
	for room := range 6 {
		for gone := range 2*room + 1 {
			for n := range room + 1 {
				b := New(room)
				for range gone {
					b.Offer(api.Mail{ID: -1})
					b.Take()
				}
				var l []api.Mail
				for i := range n {
					l = append(l, api.Mail{ID: int64(i)})
					b.Offer(l[i])
				}
				holds(t, "All", b, room-n, l...)
				if n < room {
					l = append(l, api.Mail{ID: 99})
					want(t, "Offer behind All", b.Offer(l[n]), true)
				}
				if len(l) > 0 {
					m, _ := b.Take()
					same(t, "Take behind All", m, l[0])
					l = l[1:]
				}
				holds(t, "Offer and Take behind All", b, room-len(l), l...)
				takes(t, "behind All", b, l...)
				same(t, "All of an empty one", b.All(), []api.Mail(nil))
			}
		}
	}
}

// TestFill: P18.2.
func TestFill(t *testing.T) {
	for _, s := range sizes {
		for _, n := range []int{0, 1, 2, s.room - 1, s.room, s.room + 1, s.room + 2, 2*s.room + 1} {
			if n < 0 {
				continue
			}
			var l []api.Mail
			for i := range n {
				l = append(l, api.Mail{ID: int64(i), Channel: "c"})
			}
			b, fits := Fill(s.most, l...)
			want(t, "Fill", fits, n <= s.room)
			want(t, "Fill: a queue", b != nil, n <= s.room)
			if n > s.room || !fits {
				continue
			}
			holds(t, "Fill", b, s.room-n, l...)
			want(t, "Offer behind Fill", b.Offer(api.Mail{ID: -1}), n < s.room)
			if n < s.room {
				l = append(l, api.Mail{ID: -1})
			}
			takes(t, "Fill", b, l...)
			holds(t, "Fill, emptied", b, s.room)
		}
	}
	l := messages()
	b, fits := Fill(len(l), l...)
	want(t, "Fill with all sorts", fits, true)
	takes(t, "Fill with all sorts", b, l...)
}

// TestNil: P18.1, there is nothing in a nil queue, and no room.
func TestNil(t *testing.T) {
	var b *Box
	for range 2 {
		want(t, "Offer", b.Offer(messages()[0]), false)
		want(t, "Offer of nothing", b.Offer(api.Mail{}), false)
		takes(t, "nil", b)
		holds(t, "nil", b, 0)
	}
}

// TestApart: what is done to one queue is not done to another one.
func TestApart(t *testing.T) {
	one, two := New(2), New(2)
	one.Offer(api.Mail{ID: 1})
	holds(t, "the other one", two, 2)
	two.Offer(api.Mail{ID: 2})
	holds(t, "one", one, 1, ids(1)...)
	one.Take()
	holds(t, "the other one", two, 1, ids(2)...)
}

// dice are numbers that look thrown, and are the same in each run.
type dice uint64

func (d *dice) below(n int) int {
	*d = *d*6364136223846793005 + 1442695040888963407
	return int(uint64(*d) >> 33 % uint64(n))
}

// TestRandom: P18.1 to P18.3, acts by chance, held against a list.
func TestRandom(t *testing.T) {
	d := dice(1)
	sorts := messages()
	for range 300 {
		most := d.below(9) - 1
		room := max(most, 0)
		var l []api.Mail
		for range d.below(room + 1) {
			l = append(l, sorts[d.below(len(sorts))])
		}
		b, fits := Fill(most, l...)
		want(t, "Fill", fits, true)
		for range 60 {
			switch d.below(5) {
			case 0, 1:
				m := sorts[d.below(len(sorts))]
				want(t, "Offer", b.Offer(m), len(l) < room)
				if len(l) < room {
					l = append(l, m)
				}
			case 2, 3:
				m, found := b.Take()
				want(t, "Take", found, len(l) > 0)
				if len(l) == 0 {
					same(t, "Take of none", m, api.Mail{})
					continue
				}
				same(t, "Take", m, l[0])
				l = slices.Delete(slices.Clone(l), 0, 1)
			case 4:
				holds(t, "by chance", b, room-len(l), l...)
			}
			want(t, "Len", b.Len(), len(l))
			want(t, "Room", b.Room(), room-len(l))
		}
		takes(t, "in the end", b, l...)
	}
}
