package code

import (
	"math"
	"reflect"
	"slices"
	"strconv"
	"strings"
	"testing"

	"switchyard/api"
)

// spot is a part of an object that a test changes.
type spot struct {
	path string
	v    reflect.Value
}

// spots returns all parts of an object; a value is one of them as a whole.
func spots(v reflect.Value, path string) []spot {
	out := []spot{{path, v}}
	switch {
	case v.Type() == reflect.TypeFor[api.Value]():
	case v.Kind() == reflect.Struct:
		for i := range v.NumField() {
			out = append(out, spots(v.Field(i), path+"."+v.Type().Field(i).Name)...)
		}
	case v.Kind() == reflect.Slice:
		for i := range v.Len() {
			out = append(out, spots(v.Index(i), path+"["+strconv.Itoa(i)+"]")...)
		}
	}
	return out
}

// changed is the samples with what a spot may be changed to, one change at a
// time, and whether they are encodable then.
func changed(visit func(what string, x any, right bool)) {
	for i, sample := range samples() {
		v := reflect.ValueOf(sample)
		for k, s := range spots(v, v.Type().Name()) {
			for _, c := range changesOf(s.path, s.v) {
				x := reflect.New(v.Type()).Elem()
				x.Set(reflect.ValueOf(samples()[i]))
				spots(x, "")[k].v.Set(reflect.ValueOf(c.to))
				visit(s.path+": "+c.what, x.Interface(), c.right)
			}
		}
	}
}

// change is something that a spot gets, and whether its object is encodable
// then.
type change struct {
	what  string
	to    any
	right bool
}

func changesOf(path string, v reflect.Value) []change {
	switch v.Interface().(type) {
	case api.Value:
		return values()
	case string:
		return names()
	case int64:
		return numbers()
	case []api.Value:
		return sizes[api.Value](0, 1, 15, 16, 17, 100000)
	case []int:
		return sizes[int](0, 1, 15, 16, 17, 100000)
	case []api.Mail:
		return sizes[api.Mail](0, 1, 127, 128, 4095, 4096, 4097, 100000)
	case int:
		if strings.HasSuffix(path, ".Reason") {
			return counts(5)
		}
		return counts(1000)
	}
	return nil
}

func names() []change {
	var out []change
	for _, n := range []int{0, 1, 23, 24, 25, 26, 64, 65, 1 << 16} {
		for _, s := range []string{"a", "\x00", "\xff"} {
			out = append(out, change{strconv.Itoa(n) + " bytes", strings.Repeat(s, n), n <= 24})
		}
	}
	return out
}

func numbers() []change {
	var out []change
	for _, n := range []int64{math.MinInt64, -1 << 52, -65, -64, -1, 0, 1, 63, 64, 1<<52 + 1, math.MaxInt64} {
		out = append(out, change{strconv.FormatInt(n, 10), n, true})
	}
	return out
}

func sizes[T any](all ...int) []change {
	most := all[len(all)-3] // the third from the end is the last that is right
	var out []change
	for _, n := range all {
		out = append(out, change{strconv.Itoa(n) + " elements", make([]T, n), n <= most})
	}
	return out
}

func counts(most int) []change {
	var out []change
	for _, n := range []int{0, 1, 2, 3, 4, 5, 6, 127, 128, 255, 256, 260, 999, 1000, 1001, 1 << 32, 1<<32 + 1, math.MaxInt, -1, -2, -128, -256, math.MinInt} {
		out = append(out, change{strconv.Itoa(n), n, n >= 0 && n <= most})
	}
	return out
}

// values are valid ones and such as are not.
func values() []change {
	var out []change
	for _, v := range rightValues() {
		out = append(out, change{valueText(v), v, true})
	}
	for _, v := range wrongValues() {
		out = append(out, change{valueText(v), v, false})
	}
	return out
}

func valueText(v api.Value) string {
	return "kind " + strconv.Itoa(v.Kind) + ", " + strconv.FormatInt(v.Num, 10) + ", " + strconv.Quote(v.Text) + ", a list of " + strconv.Itoa(len(v.List))
}

func rightValues() []api.Value {
	out := []api.Value{
		none, num, yes, text, sym, list,
		{List: []int64{}},
		{Kind: api.Int},
		{Kind: api.Int, Num: math.MaxInt64, List: []int64{}},
		{Kind: api.Int, Num: math.MinInt64},
		{Kind: api.Bool},
		{Kind: api.Text},
		{Kind: api.Text, Text: "'"},
		{Kind: api.Text, Text: strings.Repeat("\x80", 63)},
		{Kind: api.Text, Text: strings.Repeat("\x80", 64)},
		{Kind: api.Sym, Text: "none"},
		{Kind: api.Sym, Text: strings.Repeat("a", 23)},
		{Kind: api.Sym, Text: strings.Repeat("a", 24)},
		{Kind: api.List},
		{Kind: api.List, List: []int64{}},
		{Kind: api.List, List: []int64{math.MinInt64, math.MaxInt64}},
		{Kind: api.List, List: slices.Repeat([]int64{-65}, 15)},
		{Kind: api.List, List: slices.Repeat([]int64{-65}, 16)},
	}
	return out
}

func wrongValues() []api.Value {
	out := []api.Value{
		{Num: 1}, {Text: "a"}, {List: []int64{0}},
		{Kind: api.Int, Num: 1, Text: "1"}, {Kind: api.Int, Num: 1, List: []int64{1}},
		{Kind: api.Bool, Num: 2}, {Kind: api.Bool, Num: -1}, {Kind: api.Bool, Num: 256}, {Kind: api.Bool, Num: 257}, {Kind: api.Bool, Num: 1<<32 + 1},
		{Kind: api.Bool, Num: 1, Text: "a"}, {Kind: api.Bool, List: []int64{0}},
		{Kind: api.Text, Text: "a", Num: 1}, {Kind: api.Text, Num: -1}, {Kind: api.Text, Text: "a", List: []int64{0}},
		{Kind: api.Text, Text: strings.Repeat("a", 65)}, {Kind: api.Text, Text: strings.Repeat("a", 1<<16)},
		{Kind: api.Sym, Text: "a", Num: 1}, {Kind: api.Sym, Text: "a", List: []int64{0}},
		{Kind: api.Sym, Text: strings.Repeat("a", 25)}, {Kind: api.Sym, Text: strings.Repeat("a", 64)},
		{Kind: api.List, List: []int64{1}, Num: 1}, {Kind: api.List, Text: "a"},
		{Kind: api.List, List: make([]int64, 17)}, {Kind: api.List, List: make([]int64, 100000)},
	}
	for _, f := range noNames() {
		out = append(out, api.Value{Kind: api.Sym, Text: f.text[1:]})
	}
	for _, kind := range []int{-1, -2, -5, -256, -255, -251, 6, 7, 127, 128, 255, 256, 257, 258, 261, 1 << 32, 1<<32 + 1, math.MinInt, math.MaxInt} {
		out = append(out, api.Value{Kind: kind}, api.Value{Kind: kind, Num: 1})
	}
	for kind := 6; kind < 256; kind++ {
		out = append(out, api.Value{Kind: kind})
	}
	return out
}

// TestPut: every part of an object of each sort, changed to what it may be and
// to what it may not be.
func TestPut(t *testing.T) {
	seen := map[string]int{}
	changed(func(what string, x any, right bool) {
		sort := sortFor(x)
		s, bad := sort.put(x)
		if !right {
			want(t, what, s, "")
			want(t, what, bad, api.ErrForm)
			seen[sort.name]++
			return
		}
		want(t, what, bad, api.OK)
		want(t, what, s, piecesOf(x).text())
		back, bad := sort.get(s)
		want(t, what+", back", bad, api.OK)
		same(t, what+", back", back, x)
	})
	for _, sort := range sorts() {
		want(t, "not encodable ones of "+sort.name, seen[sort.name] > 10, true)
	}
}

// TestPutSamples: what the other tests change is encodable as it is.
func TestPutSamples(t *testing.T) {
	for _, x := range samples() {
		sort := sortFor(x)
		s, bad := sort.put(x)
		want(t, sort.name, bad, api.OK)
		want(t, sort.name, s, piecesOf(x).text())
	}
}

// TestPutGreatest: an artifact in which everything is as great as it may be.
func TestPutGreatest(t *testing.T) {
	row := slices.Repeat([]api.Value{{Kind: api.Text, Text: strings.Repeat("\xff", 64)}}, 16)
	name := strings.Repeat("n", 24)
	m := api.Mail{ID: math.MinInt64, Channel: name, Key: row, Fields: row}
	x := api.Item{
		ID: math.MinInt64, Since: math.MinInt64, Type: name, State: name, Attrs: row,
		Counts: slices.Repeat([]int{1000}, 16),
		Box:    slices.Repeat([]api.Mail{m}, 4096),
	}
	s, bad := PutItem(x)
	want(t, "Put", bad, api.OK)
	rowSize := 1 + 16*(1+1+64)
	want(t, "the size", len(s), 10+10+25+25+rowSize+1+16*2+2+4096*(10+25+2*rowSize))
	back, bad := GetItem(s)
	want(t, "Get", bad, api.OK)
	same(t, "Get", back, x)
}
