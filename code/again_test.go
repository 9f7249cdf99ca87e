package code

import (
	"math"
	"reflect"
	"slices"
	"strconv"
	"strings"
	"testing"

	"switchyard/api"
)

// object is an encodable one by chance, of any sort.
func (d *dice) object() any {
	all := sorts()
	v := reflect.New(all[d.below(len(all))].of).Elem()
	d.fill(v, "")
	return v.Interface()
}

// fill gives a part of an object what it may have.
func (d *dice) fill(v reflect.Value, name string) {
	switch one := v.Addr().Interface().(type) {
	case *api.Value:
		*one = d.value()
	case *int64:
		*one = d.number()
	case *string:
		*one = d.text(24)
	case *int:
		*one = d.below(1001)
		if name == "Reason" {
			*one = d.below(6)
		}
	default:
		d.fillAll(v)
	}
}

func (d *dice) fillAll(v reflect.Value) {
	if v.Kind() == reflect.Struct {
		for i := range v.NumField() {
			d.fill(v.Field(i), v.Type().Field(i).Name)
		}
		return
	}
	n := d.below(4)
	if v.Type() != reflect.TypeFor[[]api.Mail]() && d.below(8) == 0 {
		n = d.below(17)
	}
	v.Set(reflect.MakeSlice(v.Type(), n, n))
	for i := range n {
		d.fill(v.Index(i), "")
	}
}

func (d *dice) number() int64 {
	if d.below(4) == 0 {
		return []int64{math.MinInt64, math.MaxInt64, 0, -1, 1 << 52}[d.below(5)]
	}
	return int64(d.below(1<<31)-1<<30) >> d.below(31)
}

func (d *dice) text(most int) string {
	b := make([]byte, d.below(most+1)>>d.below(4))
	for i := range b {
		b[i] = byte(d.below(256))
	}
	return string(b)
}

func (d *dice) value() api.Value {
	v := api.Value{Kind: d.below(6)}
	switch v.Kind {
	case api.Int:
		v.Num = d.number()
	case api.Bool:
		v.Num = int64(d.below(2))
	case api.Text:
		v.Text = d.text(64)
	case api.Sym:
		v.Text = []string{"a", "red", "B_2", strings.Repeat("x", 24)}[d.below(4)]
	case api.List:
		for range d.below(17) >> d.below(3) {
			v.List = append(v.List, d.number())
		}
	}
	return v
}

// TestAgain: objects by chance, encoded and decoded, and encoded again.
func TestAgain(t *testing.T) {
	r := new(dice(13))
	seen := map[string]int{}
	for range 10000 {
		x := r.object()
		sort := sortFor(x)
		s, bad := sort.put(x)
		want(t, "Put of "+sort.name, bad, api.OK)
		want(t, "Put of "+sort.name, s, piecesOf(x).text())
		back, bad := sort.get(s)
		want(t, "Get of "+sort.name, bad, api.OK)
		same(t, "Get of "+sort.name, back, x)
		again, bad := sort.put(back)
		want(t, "Put again of "+sort.name, bad, api.OK)
		want(t, "Put again of "+sort.name, again, s)
		seen[sort.name]++
	}
	want(t, "sorts", len(seen), len(sorts()))
}

// TestUnlike: two unlike objects of a sort have unlike encodings, of which
// none is a beginning of the other.
func TestUnlike(t *testing.T) {
	all := map[string]map[string]any{} // by the sort and the encoding
	keep := func(x any) {
		sort := sortFor(x)
		s, bad := sort.put(x)
		want(t, "Put of "+sort.name, bad, api.OK)
		if all[sort.name] == nil {
			all[sort.name] = map[string]any{}
		}
		if other, is := all[sort.name][s]; is {
			same(t, "two with one encoding", x, other)
		}
		all[sort.name][s] = x
	}
	for _, x := range samples() {
		keep(x)
	}
	for _, e := range examples {
		keep(e.x)
	}
	changed(func(what string, x any, right bool) {
		if right {
			keep(x)
		}
	})
	r := new(dice(14))
	for range 5000 {
		keep(r.object())
	}
	for name, of := range all {
		noBeginnings(t, name, of)
	}
	want(t, "sorts", len(all), len(sorts()))
}

// noBeginnings checks that no encoding is a beginning of another: in their
// order, it would be one of the next.
func noBeginnings(t *testing.T, name string, of map[string]any) {
	t.Helper()
	var texts []string
	for s := range of {
		texts = append(texts, s)
	}
	slices.Sort(texts)
	for i := range len(texts) - 1 {
		want(t, name+": "+strconv.Quote(texts[i]), strings.HasPrefix(texts[i+1], texts[i]), false)
	}
	want(t, "unlike ones of "+name, len(texts) > 50, true)
}
