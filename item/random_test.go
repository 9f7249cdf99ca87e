package item

import (
	"reflect"
	"slices"
	"testing"

	"switchyard/api"
	"switchyard/check"
)

// dice are numbers that look thrown, and are the same in each run.
type dice uint64

func (d *dice) below(n int) int {
	*d = *d*6364136223846793005 + 1442695040888963407
	return int(uint64(*d) >> 33 % uint64(n))
}

// spots returns all names, numbers, flags and lists of a thing.
func spots(v reflect.Value) []reflect.Value {
	var out []reflect.Value
	switch v.Kind() {
	case reflect.Struct:
		for i := range v.NumField() {
			out = append(out, spots(v.Field(i))...)
		}
		return out
	case reflect.Slice:
		for i := range v.Len() {
			out = append(out, spots(v.Index(i))...)
		}
	}
	return append(out, v)
}

// twist gives a spot another value that looks thrown.
func (d *dice) twist(v reflect.Value) {
	names := []string{"", "a", "z", "n", "l", "k", "b", "t", "s", "o", "w", "f", "e", "h", "g", "one", "two", "end", "i", "j", "p", "q", "c1", "c2", "c3", "c4", "color", "size", "red", "blue", "big", "none"}
	numbers := []int64{-1 << 63, -1, 0, 0, 1, 2, 3, 4, 5, 6, 1000, 1001, 1 << 52, 1<<52 + 1, 1<<63 - 1}
	switch v.Kind() {
	case reflect.String:
		v.SetString(names[d.below(len(names))])
	case reflect.Bool:
		v.SetBool(!v.Bool())
	case reflect.Slice:
		switch n := v.Len(); {
		case n == 0 || d.below(3) == 0:
			v.SetZero()
		case d.below(2) == 0:
			v.Set(v.Slice(0, d.below(n)))
		default:
			v.Set(reflect.Append(v.Slice3(0, n, n), v.Index(d.below(n))))
		}
	default:
		v.SetInt(numbers[d.below(len(numbers))])
	}
}

func (d *dice) twisted(x any, times int) {
	for range times {
		all := spots(reflect.ValueOf(x).Elem())
		d.twist(all[d.below(len(all))])
	}
}

// first is the error that the chapter's words give for an artifact of a valid
// choreography, one word after the other.
func first(d api.Def, x api.Item) api.Errno {
	for _, typ := range d.Types {
		if typ.Name != x.Type {
			continue
		}
		for _, s := range typ.States {
			if s.Name == x.State && x.Since >= 0 && x.Since <= 4503599627370496 {
				return firstIn(d, typ, s, x)
			}
		}
		return api.ErrState
	}
	return api.ErrName
}

func firstIn(d api.Def, typ api.Type, s api.State, x api.Item) api.Errno {
	if !fitting(d, typ.Attrs, x.Attrs) {
		return api.ErrKind
	}
	if len(x.Counts) != len(typ.Ports) {
		return api.ErrCount
	}
	for i, p := range typ.Ports {
		if x.Counts[i] > p.Max || x.Counts[i] < 0 || s.Final && x.Counts[i] < p.Min {
			return api.ErrCount
		}
	}
	if s.Final && len(x.Box) > 0 {
		return api.ErrForm
	}
	for _, m := range x.Box {
		if to, may := boxOf(d, m); !may || to != typ.Name {
			return api.ErrForm
		}
	}
	return api.OK
}

// boxOf is the type in whose Boxes a message may be.
func boxOf(d api.Def, m api.Mail) (string, bool) {
	for _, c := range d.Channels {
		if c.Name != m.Channel {
			continue
		}
		var key []api.Attr
		for _, typ := range d.Types {
			for _, name := range typ.Key {
				for _, a := range typ.Attrs {
					if typ.Name == c.To && a.Name == name {
						key = append(key, a)
					}
				}
			}
		}
		return c.To, fitting(d, key, m.Key) && fitting(d, check.Fields(d, c.To, c.ToPort), m.Fields)
	}
	return "", false
}

func fitting(d api.Def, attrs []api.Attr, vals []api.Value) bool {
	ok := len(attrs) == len(vals)
	for i := range min(len(attrs), len(vals)) {
		ok = ok && Fits(d, attrs[i], vals[i])
	}
	return ok
}

// TestTwisted: artifacts and choreographies with a few things changed by
// chance. Nothing panics, and what is answered is what the chapter says.
func TestTwisted(t *testing.T) {
	r := new(dice(14))
	seen := map[api.Errno]int{}
	for i := range 6000 {
		d := read(t, full)
		if i%3 == 0 {
			r.twisted(&d, 1+r.below(2))
		}
		x := live()
		if r.below(4) == 0 {
			x = done()
		}
		r.twisted(&x, r.below(3))
		bad := Check(d, x)
		seen[bad]++
		if check.Check(d) != api.OK {
			want(t, "no choreography", bad, api.ErrNoDef)
			Lies(d, x)
		} else {
			want(t, "Check", bad, first(d, x))
			want(t, "Lies", Lies(d, x), bad)
			for _, m := range x.Box {
				_, may := boxOf(d, m)
				want(t, "Mail", Mail(d, m), may)
			}
		}
		one, _ := check.Type(d, x.Type)
		s, found := check.State(one, x.State)
		want(t, "Live", Live(d, x), found && !s.Final)
		same(t, "Twin", Twin(x), x)
		want(t, "a shorter Key", len(Key(d, x)) <= 4, true)
		for _, m := range x.Box {
			Mail(d, m)
		}
	}
	for _, bad := range []api.Errno{api.OK, api.ErrName, api.ErrState, api.ErrKind, api.ErrCount, api.ErrForm, api.ErrNoDef} {
		want(t, "many with "+bad.Error(), seen[bad] > 30, true)
	}
}

// some are values of attributes, most of which fit.
func (r *dice) some(d api.Def, attrs []api.Attr) []api.Value {
	var out []api.Value
	for _, a := range attrs {
		v := Zero(d, a)
		if a.Kind > api.None && a.Kind <= api.List && a.Kind != api.Sym && r.below(2) == 0 {
			l := validOf(a.Kind)
			v = l[r.below(len(l))]
		}
		out = append(out, v)
	}
	if r.below(10) == 0 {
		r.twisted(&out, 1)
	}
	return out
}

// TestMade: P14.4, what New and Spawn return fits, in valid choreographies
// that were changed by chance; and what they do not return would not.
func TestMade(t *testing.T) {
	r := new(dice(15))
	seen := map[api.Errno]int{}
	for i := range 3000 {
		d := read(t, full)
		if i%2 == 0 {
			r.twisted(&d, 1+r.below(2))
		}
		for _, one := range d.Types {
			now := times[r.below(len(times))]
			if r.below(10) == 0 {
				now = notTimes[r.below(len(notTimes))]
			}
			vals := r.some(d, one.Attrs)
			x, bad := New(d, one.Name, int64(i), now, vals...)
			made(t, d, one, x, bad)
			seen[bad]++
			if bad == api.OK {
				same(t, "values", x.Attrs, vals)
				y := x
				y.Attrs = slices.Concat(vals, vals[:1])
				want(t, "a value too many", Check(d, y), api.ErrKind)
			}
			var attrs []api.Attr
			for _, name := range one.Key {
				if i := check.Place(one.Attrs, name); i >= 0 {
					attrs = append(attrs, one.Attrs[i])
				}
			}
			key := r.some(d, attrs)
			x, bad = Spawn(d, one.Name, int64(i), now, key...)
			made(t, d, one, x, bad)
			seen[bad]++
			if bad == api.OK {
				same(t, "key", Key(d, x), key)
			}
		}
	}
	for _, bad := range []api.Errno{api.OK, api.ErrArg, api.ErrKind, api.ErrNoDef} {
		want(t, "many with "+bad.Error(), seen[bad] > 30, true)
	}
}

// made checks what New or Spawn answers.
func made(t *testing.T, d api.Def, one api.Type, x api.Item, bad api.Errno) {
	t.Helper()
	valid := check.Check(d) == api.OK
	want(t, "ErrNoDef", bad == api.ErrNoDef, !valid)
	if bad != api.OK {
		same(t, "beside an error", x, api.Item{})
		return
	}
	want(t, "it fits", Check(d, x), api.OK)
	want(t, "it is live", Live(d, x), true)
	s, _ := check.State(one, x.State)
	want(t, "in its start", s.Start, true)
	want(t, "no messages", len(x.Box), 0)
	want(t, "no counts", len(x.Counts) == len(one.Ports) && !slices.ContainsFunc(x.Counts, func(n int) bool { return n != 0 }), true)
}
