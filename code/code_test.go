package code

import (
	"reflect"
	"strings"
	"testing"

	"switchyard/api"
)

func want[T comparable](t *testing.T, what string, got, wanted T) {
	t.Helper()
	if got != wanted {
		t.Errorf("%s: got %#v, want %#v", what, got, wanted)
	}
}

// same checks that two things are equal. A nil slice is an empty one.
func same(t *testing.T, what string, got, wanted any) {
	t.Helper()
	if !equal(reflect.ValueOf(got), reflect.ValueOf(wanted)) {
		t.Errorf("%s:\n got %+v\nwant %+v", what, got, wanted)
	}
}

func equal(a, b reflect.Value) bool {
	if a.Type() != b.Type() {
		return false
	}
	switch a.Kind() {
	case reflect.Struct:
		for i := range a.NumField() {
			if !equal(a.Field(i), b.Field(i)) {
				return false
			}
		}
		return true
	case reflect.Slice:
		if a.Len() != b.Len() {
			return false
		}
		for i := range a.Len() {
			if !equal(a.Index(i), b.Index(i)) {
				return false
			}
		}
		return true
	}
	return a.Equal(b)
}

// sort is the two functions for one sort of objects.
type sort struct {
	name string
	of   reflect.Type
	put  func(x any) (string, api.Errno)
	get  func(s string) (any, api.Errno)
}

func sortOf[T any](put func(T) (string, api.Errno), get func(string) (T, api.Errno)) sort {
	of := reflect.TypeFor[T]()
	return sort{
		of.Name(), of,
		func(x any) (string, api.Errno) { return put(x.(T)) },
		func(s string) (any, api.Errno) { return get(s) },
	}
}

func sorts() []sort {
	return []sort{
		sortOf(PutValue, GetValue),
		sortOf(PutMail, GetMail),
		sortOf(PutItem, GetItem),
		sortOf(PutDead, GetDead),
		sortOf(PutEvent, GetEvent),
		sortOf(PutSub, GetSub),
	}
}

// sortFor is the sort of an object.
func sortFor(x any) sort {
	for _, s := range sorts() {
		if s.of == reflect.TypeOf(x) {
			return s
		}
	}
	panic("no such sort")
}

// zero is the zero object of a sort.
func (s sort) zero() any { return reflect.Zero(s.of).Interface() }

// dice are numbers that look thrown, and are the same in each run.
type dice uint64

func (d *dice) below(n int) int {
	*d = *d*6364136223846793005 + 1442695040888963407
	return int(uint64(*d)>>33) % n
}

// The values of each kind that the samples have.
var (
	none = api.Value{}
	num  = api.Value{Kind: api.Int, Num: -300}
	yes  = api.Value{Kind: api.Bool, Num: 1}
	text = api.Value{Kind: api.Text, Text: "\"\x00\xff"}
	sym  = api.Value{Kind: api.Sym, Text: "a_1"}
	list = api.Value{Kind: api.List, List: []int64{1, -64, 64}}
)

// samples are encodable objects of each sort, made anew by each call. Each
// list has more than one element, and no two elements are the same.
func samples() []any {
	l := func() api.Value { return api.Value{Kind: api.List, List: []int64{1, -64, 64}} }
	mail := func(id int64) api.Mail {
		return api.Mail{ID: id, Channel: "ask", Key: []api.Value{num, l()}, Fields: []api.Value{none, yes, text, sym}}
	}
	return []any{
		none, num, yes, text, sym, l(),
		mail(7),
		api.Item{
			ID: 300, Type: "order", State: "new", Since: 1 << 40,
			Attrs:  []api.Value{yes, sym, l(), num, text, none},
			Counts: []int{0, 1000, 128},
			Box:    []api.Mail{mail(-9), mail(500)},
		},
		api.Dead{N: 9, Mail: mail(65), Reason: 5},
		api.Event{N: -1, Tick: 1 << 52, Item: 64, Name: "move", Type: "order", State: "sent", Attrs: []api.Value{l(), sym, num}},
		api.Sub{ID: 5, Role: "boss", Past: 6},
	}
}

// examples are objects and their encodings, which are written out here. The
// first two are those of the chapter.
var examples = []struct {
	x any
	s string
}{
	{api.Value{Kind: api.Int, Num: -1}, "\x01\x01"},
	{api.Value{Kind: api.List, List: []int64{1, 2}}, "\x05\x02\x02\x04"},

	{api.Value{}, "\x00"},
	{api.Value{Kind: api.Int}, "\x01\x00"},
	{api.Value{Kind: api.Int, Num: 64}, "\x01\x80\x01"},
	{api.Value{Kind: api.Int, Num: 1<<63 - 1}, "\x01\xfe\xff\xff\xff\xff\xff\xff\xff\xff\x01"},
	{api.Value{Kind: api.Int, Num: -1 << 63}, "\x01\xff\xff\xff\xff\xff\xff\xff\xff\xff\x01"},
	{api.Value{Kind: api.Bool}, "\x02\x00"},
	{api.Value{Kind: api.Bool, Num: 1}, "\x02\x01"},
	{api.Value{Kind: api.Text}, "\x03\x00"},
	{api.Value{Kind: api.Text, Text: "a\x00\xff"}, "\x03\x03a\x00\xff"},
	{api.Value{Kind: api.Text, Text: strings.Repeat("\xfe", 64)}, "\x03\x40" + strings.Repeat("\xfe", 64)},
	{api.Value{Kind: api.Sym, Text: "x"}, "\x04\x01x"},
	{api.Value{Kind: api.Sym, Text: strings.Repeat("Z", 24)}, "\x04\x18" + strings.Repeat("Z", 24)},
	{api.Value{Kind: api.List}, "\x05\x00"},
	{api.Value{Kind: api.List, List: make([]int64, 16)}, "\x05\x10" + strings.Repeat("\x00", 16)},

	{api.Mail{}, "\x00\x00\x00\x00"},
	{api.Mail{ID: 3, Channel: "ab", Key: []api.Value{num}, Fields: []api.Value{yes, none}}, "\x06\x02ab\x01\x01\xd7\x04\x02\x02\x01\x00"},

	{api.Item{}, "\x00\x00\x00\x00\x00\x00\x00"},
	{
		api.Item{ID: 1, Type: "t", State: "uv", Since: -2, Attrs: []api.Value{none, yes}, Counts: []int{5, 1000}, Box: []api.Mail{{ID: 6, Channel: "c", Key: []api.Value{yes}}, {}}},
		"\x02\x03\x01t\x02uv\x02\x00\x02\x01\x02\x05\xe8\x07\x02\x0c\x01c\x01\x02\x01\x00\x00\x00\x00\x00",
	},

	{api.Dead{}, "\x00\x00\x00\x00\x00\x00"},
	{api.Dead{N: 4, Mail: api.Mail{ID: 6, Channel: "c", Fields: []api.Value{yes}}, Reason: 5}, "\x08\x0c\x01c\x00\x01\x02\x01\x05"},

	{api.Event{}, "\x00\x00\x00\x00\x00\x00\x00"},
	{
		api.Event{N: 1, Tick: 2, Item: 3, Name: "n", Type: "ty", State: "sta", Attrs: []api.Value{sym, none}},
		"\x02\x04\x06\x01n\x02ty\x03sta\x02\x04\x03a_1\x00",
	},

	{api.Sub{}, "\x00\x00\x00"},
	{api.Sub{ID: 1, Role: "r", Past: 2}, "\x02\x04\x01r"},
}

func TestExamples(t *testing.T) {
	for _, e := range examples {
		what := sortFor(e.x)
		s, bad := what.put(e.x)
		want(t, "Put of "+what.name, s, e.s)
		want(t, "Put of "+what.name, bad, api.OK)
		x, bad := what.get(e.s)
		want(t, "Get of "+what.name, bad, api.OK)
		same(t, "Get of "+what.name, x, e.x)
		want(t, "the pieces of "+what.name, piecesOf(e.x).text(), e.s)
	}
}
