package feed

import (
	"math"
	"reflect"
	"testing"

	"switchyard/api"
	"switchyard/check"
	"switchyard/defn"
)

// source has roles that see artifacts in the state new, all of them, such as
// have no zero, none.
const source = `artifact a { attr k int; attr l list; key k; state new start; state mid; state end final; move go: new -> mid; }
artifact b { attr k int; key k; state new start; }
role r { sees a(l, k) in new; may a; }
role all { sees a(k); sees b; }
role where { sees a in mid, new where 1 / k != 0 || k != 0; }
role nobody { may a.go; }
`

func want[T comparable](t *testing.T, what string, got, wanted T) {
	t.Helper()
	if got != wanted {
		t.Errorf("%s: got %#v, want %#v", what, got, wanted)
	}
}

// same checks that two things are equal. A nil slice is an empty one.
func same(t *testing.T, what string, got, wanted any) {
	t.Helper()
	if !equal(reflect.ValueOf(got), reflect.ValueOf(wanted)) {
		t.Errorf("%s:\n got %+v\nwant %+v", what, got, wanted)
	}
}

func equal(a, b reflect.Value) bool {
	if a.Type() != b.Type() {
		return false
	}
	switch a.Kind() {
	case reflect.Struct:
		for i := range a.NumField() {
			if !equal(a.Field(i), b.Field(i)) {
				return false
			}
		}
		return true
	case reflect.Slice:
		if a.Len() != b.Len() {
			return false
		}
		for i := range a.Len() {
			if !equal(a.Index(i), b.Index(i)) {
				return false
			}
		}
		return true
	}
	return a.Interface() == b.Interface()
}

// read is the choreography of a source, which has to be valid.
func read(t *testing.T, s string) api.Def {
	t.Helper()
	d, at, bad := defn.Parse(s)
	if bad != api.OK || check.Check(d) != api.OK {
		t.Fatalf("%s: %v at %d, %v", s, bad, at, check.Check(d))
	}
	return d
}

func num(n int64) api.Value     { return api.Value{Kind: api.Int, Num: n} }
func list(l ...int64) api.Value { return api.Value{Kind: api.List, List: l} }

// happened is an event of an artifact of the type a.
func happened(n int64, state string) api.Event {
	return api.Event{N: n, Tick: 50 - n, Name: "go" + state, Item: n % 3, Type: "a", State: state, Attrs: []api.Value{num(n % 5), list(n, 2)}}
}

// fresh and stale are events that r sees, and such as it doesn't.
func fresh(n int64) api.Event { return happened(n, "new") }
func stale(n int64) api.Event { return happened(n, "mid") }

// told are fresh events as r sees them.
func told(ns ...int64) []api.Seen {
	var out []api.Seen
	for _, n := range ns {
		out = append(out, api.Seen{N: n, Name: "gonew", View: api.View{Item: n % 3, Type: "a", State: "new", Attrs: []api.Value{list(n, 2), num(n % 5)}}})
	}
	return out
}

// events are these.
func events(l ...api.Event) []api.Event { return l }

// polls checks what Poll answers to r.
func polls(t *testing.T, what string, d api.Def, l []api.Event, past int64, n int, until int64, wanted ...int64) {
	t.Helper()
	out, last, bad := Poll(d, "r", l, past, n)
	want(t, what, bad, api.OK)
	want(t, what+": past", last, until)
	same(t, what, out, told(wanted...))
}

// refuses checks that Poll answers an error, and nothing beside it.
func refuses(t *testing.T, what string, wanted api.Errno, d api.Def, role string, l []api.Event, past int64, n int) {
	t.Helper()
	out, last, bad := Poll(d, role, l, past, n)
	want(t, what, bad, wanted)
	want(t, what+": past", last, 0)
	same(t, what, out, []api.Seen(nil))
}

// TestExample: the chapter's own.
func TestExample(t *testing.T) {
	d := read(t, source)
	polls(t, "no event is seen", d, events(stale(3), stale(5), stale(8)), 0, 9, 8)
	polls(t, "no event is seen", d, events(stale(3), stale(5), stale(8)), 4, 1, 8)
	for _, role := range []string{"nobody", "where"} {
		out, past, bad := Poll(d, role, events(fresh(0), fresh(5)), -9, 1)
		want(t, role, bad, api.OK)
		want(t, role, past, 5)
		same(t, role, out, []api.Seen(nil))
	}
}

// TestDoc: the eighth of the document's ten examples.
func TestDoc(t *testing.T) {
	d := read(t, `artifact order { attr id int; key id; state new start; } role boss { sees order(id); may order; }`)
	create := api.Event{N: 3, Name: "create", Item: 2, Type: "order", State: "new", Attrs: []api.Value{num(7)}}
	out, past, bad := Poll(d, "boss", events(create), 2, 9)
	want(t, "Poll", bad, api.OK)
	want(t, "Poll", past, 3)
	same(t, "Poll", out, []api.Seen{{N: 3, Name: "create", View: api.View{Item: 2, Type: "order", State: "new", Attrs: []api.Value{num(7)}}}})
	out, past, bad = Poll(d, "boss", events(create), past, 9)
	want(t, "Poll again", bad, api.OK)
	want(t, "Poll again", past, 3)
	same(t, "Poll again", out, []api.Seen(nil))
}

// TestRight: P23.1, numbers that rise, and such as don't.
func TestRight(t *testing.T) {
	for _, c := range []struct {
		ns    []int64
		right bool
	}{
		{nil, true}, {[]int64{}, true}, {[]int64{5}, true}, {[]int64{0}, true}, {[]int64{-3}, true}, {[]int64{math.MinInt64}, true}, {[]int64{math.MaxInt64}, true},
		{[]int64{1, 2}, true}, {[]int64{1, 3}, true}, {[]int64{-1, 0}, true}, {[]int64{math.MinInt64, math.MaxInt64}, true}, {[]int64{math.MaxInt64 - 1, math.MaxInt64}, true}, {[]int64{1, 2, 3}, true}, {[]int64{math.MinInt64, 0, math.MaxInt64}, true},
		{[]int64{1, 1}, false}, {[]int64{0, 0}, false}, {[]int64{2, 1}, false}, {[]int64{math.MaxInt64, math.MinInt64}, false}, {[]int64{math.MinInt64, math.MinInt64}, false},
		{[]int64{1, 2, 2}, false}, {[]int64{1, 1, 2}, false}, {[]int64{1, 3, 2}, false}, {[]int64{2, 1, 3}, false}, {[]int64{3, 2, 1}, false}, {[]int64{1, 2, 1}, false}, {[]int64{1, 2, 3, 4, 5, 6, 7, 8, 9, 9}, false}, {[]int64{2, 1, 3, 4, 5, 6, 7, 8, 9, 10}, false},
	} {
		d := read(t, source)
		var l, m []api.Event
		for _, n := range c.ns {
			l, m = append(l, api.Event{N: n}), append(m, happened(n, "new"))
		}
		want(t, "events of nothing", Right(l), c.right)
		want(t, "events", Right(m), c.right)
		if !c.right {
			for _, past := range []int64{math.MinInt64, 0, 1, 2, math.MaxInt64} {
				for _, n := range []int{1, 2, math.MaxInt} {
					refuses(t, "events that do not rise", api.ErrForm, d, "r", m, past, n)
					refuses(t, "events that do not rise", api.ErrForm, d, "nobody", l, past, n)
				}
				want(t, "left of events that do not rise", Left(d, "r", m, past), 0)
			}
		} else if len(m) > 0 {
			wanted := len(m)
			if m[0].N == math.MinInt64 {
				wanted--
			}
			want(t, "left of events that rise", Left(d, "r", m, math.MinInt64), wanted)
		}
	}
}
