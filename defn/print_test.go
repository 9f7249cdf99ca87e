package defn

import (
	"math"
	"reflect"
	"strconv"
	"strings"
	"testing"

	"switchyard/api"
)

// full is a choreography that has everything, mostly twice.
func full(t *testing.T) api.Def {
	t.Helper()
	d, _, bad := Parse(`enum color { red, blue } enum e { a }
		artifact order { attr id int; attr c color; attr l list; key id, c; state new start; state done final; in paid 0..1; out ask 1..2;
			move go: new -> done on paid after 3 when id > 0 set c = 'red set id = 1 send ask send told;
			move back: done -> new on paid after 1 when id > 1 set c = 'blue; }
		artifact ship { attr id int; attr b bool; attr t text; attr f e; key id; state idle; in req 1..1; in more 0..9; move do: idle -> idle after 7 set b = true send x; }
		channel a: order.ask -> order.paid by id + 1, c for 1..1 spawn carry id, c;
		channel b: order.ask -> ship.req by id for 1..2 carry id;
		milestone m: order new -> done by c for 2..3 when id != 4;
		milestone n: ship idle -> idle by b for 1..3 when b;
		role r { sees order(id, c) in new, done where id > 1; sees ship(id) in idle where b; may order.go; may order; }
		role s { sees ship(b, t) in idle where !b; may ship.do; }`)
	want(t, "error of the full source", bad, api.OK)
	return d
}

// spot is a part of a choreography, and where it is.
type spot struct {
	path  string
	value reflect.Value
}

// spots returns the names, numbers, expressions and lists of a choreography,
// which are in the order of the text. A list stands ahead of its elements.
func spots(path string, v reflect.Value) []spot {
	var out []spot
	switch v.Kind() {
	case reflect.Struct:
		if v.Type() == reflect.TypeFor[api.Expr]() {
			return []spot{{path, v}}
		}
		for i := range v.NumField() {
			out = append(out, spots(path+"."+v.Type().Field(i).Name, v.Field(i))...)
		}
		return out
	case reflect.Slice:
		out = append(out, spot{path, v})
		for i := range v.Len() {
			out = append(out, spots(path+"["+strconv.Itoa(i)+"]", v.Index(i))...)
		}
		return out
	}
	return []spot{{path, v}}
}

func spotsOf(d *api.Def) []spot {
	return spots("", reflect.ValueOf(d).Elem())
}

// field returns the last name of a path.
func (s spot) field() string {
	name := s.path[strings.LastIndex(s.path, ".")+1:]
	name, _, _ = strings.Cut(name, "[")
	return name
}

// with runs a check while a spot has another value.
func (s spot) with(other any, check func()) {
	before := reflect.ValueOf(s.value.Interface())
	s.value.Set(reflect.ValueOf(other).Convert(s.value.Type()))
	check()
	s.value.Set(before)
}

// notNames are strings that are no names.
func notNames() []string {
	return []string{"", " ", "1", "_", "_a", "1a", "a b", "a ", " a", "a-b", "a.b", "a,b", "'a", `"a"`, "a;", "a\n", "ä", "aä", "a\xff", "a\x00", "//", "{", "->", strings.Repeat("a", 25), strings.Repeat("a", 1000), strings.Repeat("a", 10000)}
}

// oddNames are names, though they are words of the language or of its
// expressions.
func oddNames() []string {
	return append(strings.Fields("a A z_9 true false msg len at push int bool text list none enum artifact channel milestone role attr key state start final in out move on after when set send by for spawn carry sees may where"), strings.Repeat("Z", 24))
}

// TestNames: each name of a choreography, as it may be and as it may not.
func TestNames(t *testing.T) {
	d := full(t)
	checked := 0
	for _, s := range spotsOf(&d) {
		if s.value.Kind() != reflect.String {
			continue
		}
		checked++
		optional := s.field() == "On" || strings.Contains(s.path, ".May") && s.field() == "Move"
		ofSym := s.value.String() != ""
		for _, name := range notNames() {
			s.with(name, func() {
				switch {
				case name == "" && (optional || !ofSym):
					text, bad := Print(d)
					want(t, "error without "+s.path, bad, api.OK)
					parses(t, text, d)
				case s.field() == "Enum" && !ofSym:
					refuses(t, "Enum "+strconv.Quote(name)+" of no Sym", d, api.ErrForm)
				default:
					refuses(t, s.path+" "+strconv.Quote(name), d, api.ErrName)
				}
			})
		}
		for _, name := range oddNames() {
			s.with(name, func() {
				_, word := map[string]int{"int": 1, "bool": 1, "text": 1, "list": 1}[name]
				if s.field() == "Enum" && (word || !ofSym) {
					refuses(t, "Enum "+name, d, api.ErrForm)
					return
				}
				text, bad := Print(d)
				want(t, s.path+" "+name, bad, api.OK)
				parses(t, text, d)
			})
		}
	}
	want(t, "names, at least", max(checked, 80), checked)
}

// TestNumbers: each number of a choreography, as it may be and as it may not.
func TestNumbers(t *testing.T) {
	d := full(t)
	checked := map[string]int{}
	for _, s := range spotsOf(&d) {
		kind := s.value.Kind()
		if kind != reflect.Int && kind != reflect.Int64 || s.field() == "Kind" {
			continue
		}
		checked[s.field()]++
		for n, right := range map[int64]bool{
			math.MinInt64: false, -1 << 32: false, -1 << 31: false, -1: false,
			0: true, 1: true, 1000: true, 1001: true, math.MaxInt32 - 1: true, math.MaxInt32: true,
			math.MaxInt32 + 1: s.field() == "After", 1 << 32: s.field() == "After", 1<<32 + 1: s.field() == "After", math.MaxInt64: s.field() == "After",
		} {
			s.with(n, func() {
				if !right {
					refuses(t, s.path+" "+strconv.FormatInt(n, 10), d, api.ErrForm)
					return
				}
				text, bad := Print(d)
				want(t, s.path+" "+strconv.FormatInt(n, 10), bad, api.OK)
				parses(t, text, d)
			})
		}
	}
	for _, name := range []string{"Min", "Max", "Low", "High", "After"} {
		want(t, "there is "+name, checked[name] > 0, true)
	}
	want(t, "numbers of one sort", len(checked), 5)
}

// TestKinds: each Kind of an attribute, with and without an Enum.
func TestKinds(t *testing.T) {
	words := map[int]string{api.Int: "int", api.Bool: "bool", api.Text: "text", api.List: "list"}
	for _, kind := range []int{math.MinInt, -1, api.None, api.Int, api.Bool, api.Text, api.Sym, api.List, 6, 7, 100, 256 + api.Int, 1<<32 + api.Int, math.MaxInt} {
		for _, enum := range []string{"", "e", "int", "bool", "text", "list", "sym", "none", "1", "a b", "color"} {
			d := attrsOf(api.Attr{Name: "x", Kind: kind, Enum: enum})
			what := "Kind " + strconv.Itoa(kind) + " and Enum " + strconv.Quote(enum)
			_, taken := map[string]int{"int": 1, "bool": 1, "text": 1, "list": 1}[enum]
			_, plain := words[kind]
			switch {
			case plain && enum == "":
				both(t, d, "artifact a {\n\tattr x "+words[kind]+";\n}\n")
			case kind == api.Sym && (enum == "" || enum == "1" || enum == "a b"):
				refuses(t, what, d, api.ErrName)
			case kind == api.Sym && !taken:
				both(t, d, "artifact a {\n\tattr x "+enum+";\n}\n")
			default:
				refuses(t, what, d, api.ErrForm)
			}
			d.Types[0].Attrs[0].Name = "1"
			refuses(t, what+" of no name", d, api.ErrName)
		}
	}
}

// TestLists: each list of a choreography without elements.
func TestLists(t *testing.T) {
	d := full(t)
	checked := 0
	for _, s := range spotsOf(&d) {
		if s.value.Kind() != reflect.Slice {
			continue
		}
		checked++
		for _, none := range []reflect.Value{reflect.Zero(s.value.Type()), reflect.MakeSlice(s.value.Type(), 0, 3)} {
			s.with(none.Interface(), func() {
				if s.field() == "Syms" || s.field() == "By" {
					refuses(t, "no "+s.path, d, api.ErrForm)
					return
				}
				text, bad := Print(d)
				want(t, "no "+s.path, bad, api.OK)
				parses(t, text, d)
			})
		}
	}
	want(t, "lists, at least", max(checked, 30), checked)
}

// breaks returns a value with which a spot is wrong, and the error; or OK if
// there is none.
func (s spot) breaks() (any, api.Errno) {
	endless := []api.Expr{node(api.OpNot)}
	endless[0].Args = endless
	switch {
	case s.value.Kind() == reflect.String && (s.field() != "Enum" || s.value.String() != ""):
		return "a b", api.ErrName
	case s.value.Kind() == reflect.Int || s.value.Kind() == reflect.Int64:
		return -1, api.ErrForm
	case s.value.Kind() == reflect.Struct:
		return endless[0], api.ErrMany
	case s.field() == "Syms" || s.field() == "By" && s.value.Kind() == reflect.Slice:
		return reflect.Zero(s.value.Type()).Interface(), api.ErrForm
	}
	return nil, api.OK
}

// TestFirst: of two errors the first one counts, in the order of the text.
func TestFirst(t *testing.T) {
	d := full(t)
	all := spotsOf(&d)
	checked := 0
	for i, first := range all {
		broken, bad := first.breaks()
		if bad == api.OK {
			continue
		}
		first.with(broken, func() {
			refuses(t, first.path, d, bad)
			for _, second := range all[i+1:] {
				other, otherBad := second.breaks()
				if otherBad == api.OK || otherBad == bad || strings.HasPrefix(second.path, first.path+"[") {
					continue
				}
				checked++
				second.with(other, func() { refuses(t, first.path+" ahead of "+second.path, d, bad) })
			}
		})
	}
	want(t, "pairs, at least", max(checked, 2000), checked)
	refuses(t, "a name ahead of no Syms", api.Def{Enums: []api.Enum{{}}}, api.ErrName)
	refuses(t, "no Syms ahead of a name", api.Def{Enums: []api.Enum{{Name: "a"}, {}}}, api.ErrForm)
	refuses(t, "a name ahead of no By", api.Def{Channels: []api.Channel{{Name: "a", From: "b", FromPort: "c", To: "d"}}}, api.ErrName)
	refuses(t, "no By ahead of a name", api.Def{Channels: []api.Channel{{Name: "a", From: "b", FromPort: "c", To: "d", ToPort: "e", Carry: []string{""}}}}, api.ErrForm)
}

// ofSize is a choreography whose text has so many bytes.
func ofSize(t *testing.T, size int) api.Def {
	var d api.Def
	left := size
	for left > 0 {
		one := api.Enum{Name: strings.Repeat("e", 24), Syms: []string{strings.Repeat("s", 24)}}
		most := len("enum  {  }\n") + 48
		if left < 2*most { // the last two share what is left
			most = left - left/2*(left/(most+1))
			one.Name = strings.Repeat("e", (most-11)/2)
			one.Syms[0] = strings.Repeat("s", most-11-(most-11)/2)
		}
		d.Enums = append(d.Enums, one)
		left -= most
	}
	return d
}

func TestPrintLong(t *testing.T) {
	for _, size := range []int{100, 7999, 8000} {
		d := ofSize(t, size)
		s, bad := Print(d)
		want(t, "error", bad, api.OK)
		want(t, "bytes", len(s), size)
		parses(t, s, d)
	}
	for _, size := range []int{8001, 8002, 8050, 8100, 16000, 100000, 1000000} {
		d := ofSize(t, size)
		refuses(t, strconv.Itoa(size)+" bytes", d, api.ErrLong)
		// Any other error goes ahead, wherever it is.
		d.Roles = []api.Role{{Name: "r", May: []api.Right{{Type: "a", Move: "1"}}}}
		refuses(t, "a wrong name behind too much", d, api.ErrName)
		d.Roles = nil
		d.Groups = []api.Group{{Name: "m", Type: "a", State: "b", To: "c", By: "d", High: -1}}
		refuses(t, "a wrong number behind too much", d, api.ErrForm)
		d.Groups[0].High, d.Groups[0].When = 1, attr("len")
		refuses(t, "a wrong expression behind too much", d, api.ErrName)
		d.Groups[0].When = node(api.OpNot, tree(t, row(200)))
		refuses(t, "a wrong expression behind too much", d, api.ErrMany)
	}
	refuses(t, "a name that is too long", api.Def{Enums: []api.Enum{{Name: strings.Repeat("a", 9000), Syms: []string{"b"}}}}, api.ErrName)
	// Each kind of declaration may be what is too much.
	for _, one := range declarations() {
		if strings.HasPrefix(one.text, "enum") {
			continue
		}
		size := len(printed(one.text))
		for _, over := range []int{0, 1} {
			d := ofSize(t, api.MaxSource-size+over)
			one.add(&d)
			s, bad := Print(d)
			if over == 0 {
				want(t, "error", bad, api.OK)
				want(t, "bytes", len(s), api.MaxSource)
				parses(t, s, d)
			} else {
				refuses(t, "one byte too much, with "+one.text, d, api.ErrLong)
			}
		}
	}
}
