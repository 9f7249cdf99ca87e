package typing

import (
	"slices"
	"strconv"
	"strings"
	"testing"
	"unsafe"

	"switchyard/api"
	"switchyard/expr"
)

func want[V comparable](t *testing.T, what string, got, wanted V) {
	t.Helper()
	if got != wanted {
		t.Errorf("%s: got %#v, want %#v", what, got, wanted)
	}
}

func enums() []api.Enum {
	return []api.Enum{
		{Name: "color", Syms: []string{"red", "blue"}},
		{Name: "size", Syms: []string{"big", "red"}},
		{Name: "color", Syms: []string{"green", "big"}}, // the second one of its name
		{Name: "empty"},
	}
}

// attrs have a name for each kind, and some twice.
func attrs() []api.Attr {
	return []api.Attr{
		{Name: "nothing", Kind: api.None},
		{Name: "i", Kind: api.Int},
		{Name: "b", Kind: api.Bool},
		{Name: "s", Kind: api.Text},
		{Name: "c", Kind: api.Sym, Enum: "color"},
		{Name: "z", Kind: api.Sym, Enum: "size"},
		{Name: "u", Kind: api.Sym, Enum: "unknown"},
		{Name: "l", Kind: api.List},
		{Name: "odd", Kind: 77},
		{Name: "i", Kind: api.Text},
		{Name: "c", Kind: api.Sym, Enum: "size"},
		{Name: "l", Kind: api.Int},
	}
}

func fields() []api.Attr {
	return []api.Attr{
		{Name: "i", Kind: api.Text},
		{Name: "f", Kind: api.Sym, Enum: "color"},
		{Name: "len", Kind: api.Int},
		{Name: "i", Kind: api.Int},
	}
}

func read(t *testing.T, s string) api.Expr {
	t.Helper()
	e, _, bad := expr.Read(s)
	want(t, "error of Read of "+s, bad, api.OK)
	return e
}

// hasKind checks the kind of a source.
func hasKind(t *testing.T, s string, wanted T) {
	t.Helper()
	got, bad := Of(enums(), attrs(), fields(), read(t, s))
	want(t, "error of "+s, bad, api.OK)
	want(t, "kind of "+s, got, wanted)
}

// fails checks that a tree has no kind, but an error.
func fails(t *testing.T, what string, e api.Expr, wanted api.Errno) {
	t.Helper()
	got, bad := Of(enums(), attrs(), fields(), e)
	want(t, "error of "+what, bad, wanted)
	want(t, "kind of "+what, got, T{})
}

// TestAlike: of each two, whether they are alike.
func TestAlike(t *testing.T) {
	lit := func(s string) T { return T{Kind: api.Sym, Lit: s} }
	of := func(enum string) T { return T{Kind: api.Sym, Enum: enum} }
	for _, c := range []struct {
		a, b   T
		wanted bool
	}{
		{lit("red"), lit("red"), true},
		{lit("red"), lit("no symbol"), true},
		{lit("red"), of("color"), true},
		{lit("blue"), of("color"), true},
		{lit("green"), of("color"), false}, // that of the second enum of the name
		{lit("big"), of("color"), false},
		{lit("big"), of("size"), true},
		{lit("red"), of("size"), true},
		{lit("blue"), of("size"), false},
		{lit("Red"), of("color"), false},
		{lit("red"), of("empty"), false},
		{lit("red"), of("unknown"), false},
		{lit("red"), of("Color"), false},
		{lit("red"), of(""), false},
		{of("color"), of("color"), true},
		{of("color"), of("size"), false},
		{of("unknown"), of("unknown"), true},
		{of("unknown"), of("color"), false},
		{of(""), of(""), true},
		{of(""), of("color"), false},
		{T{Kind: api.Sym, Enum: "size", Lit: "blue"}, of("color"), true},
		{T{Kind: api.Sym, Enum: "size", Lit: "blue"}, of("size"), false},
		{T{Kind: api.Sym, Enum: "size", Lit: "blue"}, lit("x"), true},
		{T{Kind: api.Sym, Enum: "size", Lit: "blue"}, T{Kind: api.Sym, Enum: "color", Lit: "x"}, true},
		{T{Kind: api.Int, Enum: "color"}, T{Kind: api.Int, Enum: "size"}, true},
		{T{Kind: api.Text, Lit: "a"}, T{Kind: api.Text}, true},
		{T{Kind: 77, Enum: "color"}, T{Kind: 77, Lit: "a"}, true},
		{T{Kind: api.Int, Lit: "red"}, of("color"), false},
		{T{Kind: api.Text, Lit: "red"}, lit("red"), false},
		{T{Enum: "color"}, of("color"), false},
	} {
		what := strconv.Quote(c.a.Enum+"/"+c.a.Lit) + " and " + strconv.Quote(c.b.Enum+"/"+c.b.Lit)
		want(t, what, Alike(enums(), c.a, c.b), c.wanted)
		want(t, what+" turned about", Alike(enums(), c.b, c.a), c.wanted)
		if c.b.Lit == "" {
			want(t, what+" by Fits", Fits(enums(), api.Attr{Name: "x", Kind: c.b.Kind, Enum: c.b.Enum}, c.a), c.wanted)
		}
		if c.a.Lit == "" {
			want(t, what+" by Fits", Fits(enums(), api.Attr{Kind: c.a.Kind, Enum: c.a.Enum}, c.b), c.wanted)
		}
	}
	want(t, "no enums, a literal", Alike(nil, lit("red"), of("color")), false)
	want(t, "no enums, two of one", Alike(nil, of("color"), of("color")), true)
	want(t, "no enums, two literals", Alike(nil, lit("a"), lit("b")), true)
	want(t, "an enum without a name", Alike([]api.Enum{{Syms: []string{"red"}}}, lit("red"), of("")), true)
}

// TestAlikeKinds: none of two kinds, all of one.
func TestAlikeKinds(t *testing.T) {
	kinds := []int{api.None, api.Int, api.Bool, api.Text, api.Sym, api.List, 6, -1}
	for _, a := range kinds {
		for _, b := range kinds {
			want(t, "two kinds", Alike(enums(), T{Kind: a}, T{Kind: b}), a == b)
			want(t, "a kind that fits", Fits(enums(), api.Attr{Name: "n", Kind: a}, T{Kind: b}), a == b)
		}
	}
}

func TestLeaves(t *testing.T) {
	for s, wanted := range map[string]T{
		"0":                   {Kind: api.Int},
		"9223372036854775807": {Kind: api.Int},
		`""`:                  {Kind: api.Text},
		`"red"`:               {Kind: api.Text},
		"true":                {Kind: api.Bool},
		"false":               {Kind: api.Bool},
		"'red":                {Kind: api.Sym, Lit: "red"},
		"'unheard_of":         {Kind: api.Sym, Lit: "unheard_of"},
		"[]":                  {Kind: api.List},
		"[1, i, -i, len(s)]":  {Kind: api.List},
		"nothing":             {Kind: api.None},
		"i":                   {Kind: api.Int}, // the first one of the name
		"b":                   {Kind: api.Bool},
		"s":                   {Kind: api.Text},
		"c":                   {Kind: api.Sym, Enum: "color"},
		"z":                   {Kind: api.Sym, Enum: "size"},
		"u":                   {Kind: api.Sym, Enum: "unknown"},
		"l":                   {Kind: api.List},
		"odd":                 {Kind: 77},
		"msg.i":               {Kind: api.Text},
		"msg.f":               {Kind: api.Sym, Enum: "color"},
		"msg.len":             {Kind: api.Int},
	} {
		hasKind(t, s, wanted)
		hasKind(t, "("+s+")", wanted)
	}
}

func TestNames(t *testing.T) {
	for _, s := range []string{"f", "I", "ii", "color", "red", "none", "int", "msg.b", "msg.I", "msg.msg", "msg.red", "msg.s"} {
		fails(t, s, read(t, s), api.ErrName)
		for _, around := range []string{"!X", "-X", "len(X)", "[1, X]", "at(X, i)", "at(l, X)", "push(X, 1)", "X == 1", "1 != X", "X < 1", "1 <= X", "X && b", "b || X", "X + 1", "1 * X", "'red == X"} {
			fails(t, around, read(t, strings.ReplaceAll(around, "X", s)), api.ErrName)
		}
	}
	for _, l := range [][]api.Attr{nil, {}} {
		_, bad := Of(enums(), l, fields(), read(t, "i"))
		want(t, "no attributes", bad, api.ErrName)
		_, bad = Of(enums(), attrs(), l, read(t, "msg.i"))
		want(t, "no fields", bad, api.ErrName)
		got, bad := Of(enums(), l, fields(), read(t, "msg.i"))
		want(t, "a field without attributes", got, T{Kind: api.Text})
		want(t, "a field without attributes", bad, api.OK)
		_, bad = Of(enums(), l, l, read(t, "1 + len([2]) == -3"))
		want(t, "no names", bad, api.OK)
	}
}

// sorts are operands of each kind.
func sorts() map[string]int {
	return map[string]int{
		"nothing": api.None, "i": api.Int, "7": api.Int, "(i + 1)": api.Int, "len(s)": api.Int, "msg.len": api.Int,
		"b": api.Bool, "true": api.Bool, "(i < 1)": api.Bool, "!b": api.Bool,
		"s": api.Text, `"x"`: api.Text, "msg.i": api.Text,
		"c": api.Sym, "'red": api.Sym, "msg.f": api.Sym, "u": api.Sym,
		"l": api.List, "[1]": api.List, "push(l, 1)": api.List, "odd": 77,
	}
}

// TestOne: what has one operand, with each kind.
func TestOne(t *testing.T) {
	for s, kind := range sorts() {
		for _, c := range []struct {
			source string
			kind   int
			fits   bool
		}{
			{"!" + s, api.Bool, kind == api.Bool},
			{"-" + s, api.Int, kind == api.Int},
			{"len(" + s + ")", api.Int, kind == api.Text || kind == api.List},
			{"[" + s + "]", api.List, kind == api.Int},
			{"[1, " + s + ", 2]", api.List, kind == api.Int},
			{"[" + strings.Repeat("1, ", 15) + s + "]", api.List, kind == api.Int},
		} {
			if c.fits {
				hasKind(t, c.source, T{Kind: c.kind})
			} else {
				fails(t, c.source, read(t, c.source), api.ErrKind)
			}
		}
	}
}

// TestTwo: what has two operands, with each two kinds.
func TestTwo(t *testing.T) {
	for left, a := range sorts() {
		for right, b := range sorts() {
			numbers := a == api.Int && b == api.Int
			ordered := numbers || a == api.Text && b == api.Text
			indexed := a == api.List && b == api.Int
			alike := a == b && (a != api.Sym || (left == "u") == (right == "u"))
			check := func(s string, kind int, fits bool) {
				if fits {
					hasKind(t, s, T{Kind: kind})
				} else {
					fails(t, s, read(t, s), api.ErrKind)
				}
			}
			for _, sign := range []string{" * ", " / ", " % ", " + ", " - "} {
				check(left+sign+right, api.Int, numbers)
			}
			for _, sign := range []string{" < ", " <= ", " > ", " >= "} {
				check(left+sign+right, api.Bool, ordered)
			}
			for _, sign := range []string{" == ", " != "} {
				check(left+sign+right, api.Bool, alike)
			}
			for _, sign := range []string{" && ", " || "} {
				check(left+sign+right, api.Bool, a == api.Bool && b == api.Bool)
			}
			check("at("+left+", "+right+")", api.Int, indexed)
			check("push("+left+", "+right+")", api.List, indexed)
		}
	}
}

func TestSymbols(t *testing.T) {
	for s, fits := range map[string]bool{
		"c == 'red": true, "'blue != c": true, "c == 'green": false, "'big == c": false, "z == 'big": true, "z == 'blue": false, "z != 'red": true,
		"u == 'red": false, "u == u": true, "u == c": false, "c == z": false, "c != c": true, "c == msg.f": true, "msg.f == z": false, "msg.f == 'red": true, "msg.f == 'big": false,
		"'a == 'b": true, "'red == 'red": true, "'red == \"red\"": false, "c == \"red\"": false, "c == 0": false, "c == nothing": false,
		"c < c": false, "'a < 'b": false, "c <= 'red": false, "c + c": false, "!c": false, "len(c)": false, "[c]": false, "c && c": false,
		"(c == 'red) == (z == 'red)": true, "(c == 'red) == c": false,
	} {
		if fits {
			hasKind(t, s, T{Kind: api.Bool})
		} else {
			fails(t, s, read(t, s), api.ErrKind)
		}
	}
}

// TestFirst: of several errors the first one counts: that of Print, and then
// those of the Args, from left to right, ahead of the node's own.
func TestFirst(t *testing.T) {
	for s, wanted := range map[string]api.Errno{
		"f + (1 + s)":         api.ErrName,
		"(1 + s) + f":         api.ErrKind,
		"!(f + 1)":            api.ErrName,
		"!(1 + s)":            api.ErrKind,
		"s + f":               api.ErrName, // ahead of the node's own ErrKind
		"[s, f]":              api.ErrName,
		"[-s, f]":             api.ErrKind,
		"[1, s, [f]]":         api.ErrName,
		"push(s, at(1, f))":   api.ErrName,
		"at(!1, f)":           api.ErrKind,
		"f > -s":              api.ErrKind, // turned about
		"-s >= f":             api.ErrName,
		"false && f":          api.ErrName,
		"true || 1 + s == 1":  api.ErrKind,
		"b == 1 && f == f":    api.ErrKind,
		"msg.b == i && b + 1": api.ErrName,
	} {
		fails(t, s, read(t, s), wanted)
	}
	name := api.Expr{Op: api.OpAttr, Text: "f"}
	kind := api.Expr{Op: api.OpNeg, Args: []api.Expr{{Op: api.OpText}}}
	deep, many := kind, []api.Expr{}
	for range 20 {
		deep = api.Expr{Op: api.OpNot, Args: []api.Expr{deep}}
	}
	for range 16 {
		many = append(many, api.Expr{Op: api.OpList, Args: slices.Repeat([]api.Expr{name}, 16)})
	}
	for _, c := range []struct {
		e      api.Expr
		wanted api.Errno
	}{
		{api.Expr{}, api.ErrForm},
		{api.Expr{Op: 99}, api.ErrForm},
		{api.Expr{Op: api.OpAdd, Args: []api.Expr{name}}, api.ErrForm},
		{api.Expr{Op: api.OpAttr, Text: "len"}, api.ErrName},
		{api.Expr{Op: api.OpAttr}, api.ErrName},
		{api.Expr{Op: api.OpSym, Text: "1"}, api.ErrName},
		{api.Expr{Op: api.OpInt, Num: -1}, api.ErrForm},
		{api.Expr{Op: api.OpBool, Num: 2}, api.ErrForm},
		{api.Expr{Op: api.OpText, Text: strings.Repeat("a", 65)}, api.ErrForm},
		{api.Expr{Op: api.OpAdd, Args: []api.Expr{kind, {Op: api.OpInt, Num: -1}}}, api.ErrForm},
		{api.Expr{Op: api.OpAdd, Args: []api.Expr{name, {Op: api.OpList, Num: 1}}}, api.ErrForm},
		{api.Expr{Op: api.OpList, Args: slices.Repeat([]api.Expr{name}, 17)}, api.ErrForm},
		{deep, api.ErrDeep},
		{api.Expr{Op: api.OpList, Args: many}, api.ErrMany},
	} {
		fails(t, "what Print refuses", c.e, c.wanted)
		_, bad := expr.Print(c.e)
		want(t, "error of Print", bad, c.wanted)
	}
	// The reserved names are none, even where an attribute has one.
	_, bad := Of(nil, []api.Attr{{Name: "len", Kind: api.Int}}, nil, api.Expr{Op: api.OpAttr, Text: "len"})
	want(t, "an attribute with a reserved name", bad, api.ErrName)
}

// TestNamedAlone: the kind hangs on the attributes and fields that are named,
// and on no others.
func TestNamedAlone(t *testing.T) {
	e := read(t, "at(l, i) == 1 && c == msg.f && s < msg.i")
	wanted, bad := Of(enums(), attrs(), fields(), e)
	want(t, "error", bad, api.OK)
	less := slices.DeleteFunc(attrs(), func(a api.Attr) bool { return !strings.Contains("l i c s", a.Name) })
	for _, l := range [][]api.Attr{
		less,
		append(less[:4:4], api.Attr{Name: "x", Kind: api.Sym, Enum: "none"}),
		append([]api.Attr{{Name: "f"}, {Name: ""}, {Name: "msg"}, {Name: "len", Kind: 9}}, attrs()...),
	} {
		got, bad := Of(enums(), l, fields()[:2], e)
		want(t, "error", bad, api.OK)
		want(t, "kind", got, wanted)
	}
}

// TestKeeps: what is given stays as it is, and no kind lies in it.
func TestKeeps(t *testing.T) {
	l := attrs()
	e := read(t, "c")
	got, _ := Of(enums(), l, nil, e)
	want(t, "enum", got.Enum, "color")
	want(t, "the attribute's bytes", unsafe.StringData(got.Enum) == unsafe.StringData(l[4].Enum), false)
	e = read(t, "'red")
	got, _ = Of(enums(), l, nil, e)
	want(t, "symbol", got.Lit, "red")
	want(t, "the tree's bytes", unsafe.StringData(got.Lit) == unsafe.StringData(e.Text), false)
	e = read(t, "at([i, 1], 0) == 1 && c == 'red || f == 1")
	before, _ := expr.Print(e)
	_, bad := Of(enums(), l, fields(), e)
	want(t, "error", bad, api.ErrName)
	after, _ := expr.Print(e)
	want(t, "the tree", after, before)
	want(t, "the attributes", slices.Equal(l, attrs()), true)
}
