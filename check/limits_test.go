package check

import (
	"slices"
	"strconv"
	"strings"
	"testing"

	"switchyard/api"
)

// row is n pieces that hold a # each for their numbers, from 0 on.
func row(piece, between string, n int) string {
	l := make([]string, n)
	for i := range l {
		l[i] = strings.ReplaceAll(piece, "#", strconv.Itoa(i))
	}
	return strings.Join(l, between)
}

// sized is a source that has n of something, and is valid if n isn't too great.
type sized struct {
	what string
	most int
	make func(n int) string
}

func allSized() []sized {
	const head = "artifact a { attr k int; key k; state s start; "
	keys := func(n int) string { return row("attr k# int; ", "", n) + "key " + row("k#", ", ", n) + "; " }
	return []sized{
		{"enums", 16, func(n int) string { return row("enum e# { a } ", "", n) }},
		{"types", 16, func(n int) string { return row("artifact a# { attr k int; key k; state s start; } ", "", n) }},
		{"channels", 16, func(n int) string {
			return head + "in i 0..1; out o 0..1; } " + row("channel c#: a.o -> a.i by k for 1..1; ", "", n)
		}},
		{"groups", 16, func(n int) string { return head + "} " + row("milestone m#: a s -> s by k for 1..1; ", "", n) }},
		{"roles", 16, func(n int) string { return row("role r# { } ", "", n) }},
		{"Syms", 16, func(n int) string { return "enum d { a } enum e { " + row("s#", ", ", n) + " }" }},
		{"Attrs", 16, func(n int) string { return head + row("attr a# text; ", "", n-1) + "}" }},
		{"States", 16, func(n int) string { return head + row("state t# final; ", "", n-1) + "}" }},
		{"in ports", 16, func(n int) string { return head + row("in p# 0..1; ", "", n) + "}" }},
		{"out ports", 16, func(n int) string { return head + row("out p# 0..1; ", "", n) + "}" }},
		{"Ports", 16, func(n int) string { return head + row("in p# 0..1; ", "", n/2) + row("out q# 1..1; ", "", n-n/2) + "}" }},
		{"Moves", 16, func(n int) string { return head + row("move m#: s -> s; ", "", n) + "}" }},
		{"Sets", 16, func(n int) string {
			// A Set of each attribute but the key: beyond 15 there are too many attributes, too.
			return head + row("attr a# int; ", "", n-1) + "move m: s -> s " + row("set a# = 1 ", "", n-1) + "; }"
		}},
		{"Sends", 16, func(n int) string {
			return head + row("out p# 0..1; ", "", n) + "move l: s -> s; move m: s -> s " + row("send p# ", "", n) + "; }"
		}},
		{"Carry", 16, func(n int) string {
			return "artifact a { " + row("attr a# int; ", "", n) + "key a0; state s start; in i 0..1; out o 0..1; } channel b: a.o -> a.i by 1 for 1..1 carry " + row("a#", ", ", n) + "; "
		}},
		{"Sees", 16, func(n int) string {
			return row("artifact a# { attr k int; key k; state s start; } ", "", n) + "role q { } role r { " + row("sees a#; ", "", n) + "}"
		}},
		{"May", 16, func(n int) string {
			return head + row("move m#: s -> s; ", "", n-1) + "} role r { may a; " + row("may a.m#; ", "", n-1) + "}"
		}},
		{"Attrs of a sight", 16, func(n int) string {
			return "artifact a { " + row("attr a# int; ", "", n) + "key a0; state s start; } role r { sees a(" + row("a#", ", ", n) + "); }"
		}},
		{"States of a sight", 16, func(n int) string {
			return "artifact a { attr k int; key k; state s start; " + row("state t# final; ", "", n-1) + "} role r { sees a in s, " + row("t#", ", ", n-1) + "; }"
		}},
		{"names of a Key", 4, func(n int) string { return "artifact a { " + keys(n) + "state s start; }" }},
		{"By", 4, func(n int) string {
			return "artifact a { " + keys(n) + "state s start; in i 0..1; out o 0..1; } channel c: a.o -> a.i by " + row("k#", ", ", n) + " for 1..1;"
		}},
	}
}

// TestMany: as many of each as there may be, and one more.
func TestMany(t *testing.T) {
	for _, c := range allSized() {
		want(t, strconv.Itoa(c.most)+" "+c.what, Check(read(t, c.make(c.most))), api.OK)
		want(t, strconv.Itoa(c.most+1)+" "+c.what, Check(read(t, c.make(c.most+1))), api.ErrMany)
		want(t, strconv.Itoa(2*c.most)+" "+c.what, Check(read(t, c.make(2*c.most))), api.ErrMany)
		want(t, "acyclic: too many "+c.what, Acyclic(read(t, c.make(c.most+1))), false)
	}
}

// TestManyAlone: what is counted is too many by itself, where nothing else is.
// What it has there may be wrong otherwise.
func TestManyAlone(t *testing.T) {
	names := func(n int) []string { return strings.Fields(row("x#", " ", n)) }
	for what, c := range map[string]struct {
		most int
		grow func(d *api.Def, n int)
		bad  api.Errno // with as many as there may be
	}{
		"Sets":     {16, func(d *api.Def, n int) { d.Types[1].Moves[2].Sets = slices.Repeat(d.Types[1].Moves[2].Sets[:1], n) }, api.ErrTwice},
		"Sends":    {16, func(d *api.Def, n int) { d.Types[1].Moves[2].Sends = names(n) }, api.ErrNone},
		"Syms":     {16, func(d *api.Def, n int) { d.Enums[1].Syms = append(names(n-1), "big") }, api.OK},
		"Key":      {4, func(d *api.Def, n int) { d.Types[1].Key = names(n) }, api.ErrNone},
		"By":       {4, func(d *api.Def, n int) { d.Channels[4].By = slices.Repeat(d.Channels[4].By[:1], n) }, api.ErrKind},
		"Carry":    {16, func(d *api.Def, n int) { d.Channels[4].Carry = names(n) }, api.ErrNone},
		"Sees":     {16, func(d *api.Def, n int) { d.Roles[1].Sees = slices.Repeat(d.Roles[1].Sees[:1], n) }, api.ErrTwice},
		"May":      {16, func(d *api.Def, n int) { d.Roles[1].May = slices.Repeat(d.Roles[1].May[:1], n) }, api.ErrTwice},
		"s.Attrs":  {16, func(d *api.Def, n int) { d.Roles[1].Sees[1].Attrs = names(n) }, api.ErrNone},
		"s.States": {16, func(d *api.Def, n int) { d.Roles[1].Sees[1].States = names(n) }, api.ErrNone},
		"Ports":    {16, func(d *api.Def, n int) { d.Types[1].Ports = slices.Repeat(d.Types[1].Ports[:1], n) }, api.ErrTwice},
		"channels": {16, func(d *api.Def, n int) { d.Channels = slices.Repeat(d.Channels[:1], n) }, api.ErrTwice},
	} {
		for n, wanted := range map[int]api.Errno{c.most: c.bad, c.most + 1: api.ErrMany, 3 * c.most: api.ErrMany} {
			d := read(t, full)
			c.grow(&d, n)
			want(t, strconv.Itoa(n)+" "+what, Check(d), wanted)
		}
	}
}

// TestTwice: two elements of one name, in each place where there may be none.
func TestTwice(t *testing.T) {
	for what, double := range map[string]func(d *api.Def){
		"enums":             func(d *api.Def) { d.Enums[1].Name = "color" },
		"Syms":              func(d *api.Def) { d.Enums[1].Syms[2] = "big" },
		"types":             func(d *api.Def) { d.Types[1].Name = "a" },
		"Attrs":             func(d *api.Def) { d.Types[1].Attrs[8].Name = "spare" },
		"Attrs of two kind": func(d *api.Def) { d.Types[1].Attrs[5].Name = "s" },
		"Key":               func(d *api.Def) { d.Types[1].Key[1] = "k" },
		"States":            func(d *api.Def) { d.Types[1].States[2].Name = "two" },
		"in ports":          func(d *api.Def) { d.Types[1].Ports[1].Name = "i" },
		"out ports":         func(d *api.Def) { d.Types[1].Ports[3].Name = "o" },
		"in and out":        func(d *api.Def) { d.Types[1].Ports[3].Name = "j" },
		"Moves":             func(d *api.Def) { d.Types[1].Moves[2].Name = "go" },
		"Sets":              func(d *api.Def) { d.Types[1].Moves[2].Sets[1].Attr = "b" },
		"Sends":             func(d *api.Def) { d.Types[1].Moves[2].Sends[1] = "o" },
		"channels":          func(d *api.Def) { d.Channels[4].Name = "d" },
		"Carry":             func(d *api.Def) { d.Channels[4].Carry[1] = "n" },
		"groups":            func(d *api.Def) { d.Groups[1].Name = "m" },
		"roles":             func(d *api.Def) { d.Roles[1].Name = "r" },
		"Sees":              func(d *api.Def) { d.Roles[1].Sees[1].Type = "z" },
		"Attrs of a sight":  func(d *api.Def) { d.Roles[1].Sees[1].Attrs[1] = "k" },
		"States of a sight": func(d *api.Def) { d.Roles[1].Sees[1].States[1] = "end" },
		"May of a move":     func(d *api.Def) { d.Roles[0].May[2] = api.Right{Type: "a", Move: "go"} },
		"May without moves": func(d *api.Def) { d.Roles[1].May[2] = api.Right{Type: "a"} },
		"May at the end":    func(d *api.Def) { d.Roles[1].May = append(d.Roles[1].May, d.Roles[1].May[2]) },
		"names that are":    func(d *api.Def) { d.Types[0].Moves[0].Sends = []string{"none", "none"} }, // ahead of ErrNone
	} {
		d := read(t, full)
		double(&d)
		want(t, "two of one name: "+what, Check(d), api.ErrTwice)
		want(t, "acyclic with two of one name: "+what, Acyclic(d), false)
	}
}

// TestTwiceAgain: the elements of each element are looked at, not those of the
// first one alone, nor those of all together.
func TestTwiceAgain(t *testing.T) {
	source := `enum e { x, y } enum f { y, x }
		artifact a { attr a int; attr b int; key a, b; state a start; state b final; in i 0..1; out o 0..1; move a: a -> a set b = 1; move b: a -> b; }
		artifact b { attr a int; attr b int; attr e e; key a, b; state a start; state b; in i 0..1; out o 0..1; out p 0..1; out e 0..1; in a 0..1; in b 0..1;
			move a: a -> a set e = 'x send o send p; move b: b -> b set e = 'x send o send e; }
		channel a: a.o -> b.i by a, a for 1..1 carry a, b; channel b: b.o -> b.i by b, b for 1..1 carry a, b; channel i: b.o -> a.i by 1, 1 for 1..1 carry a, b;
		milestone a: a a -> a by a for 1..1; milestone b: a a -> b by a for 1..1;
		role a { sees a(a, b) in a, b; sees b(a, b) in a, b; may a.a; may a.b; may a; may b.a; may b; }
		role b { sees b(a, b) in a, b; sees a(a, b) in a, b; may b; may a.a; may a; }`
	want(t, "one name in many places", Check(read(t, strings.ReplaceAll(source, "set b = 1", ""))), api.OK)
	want(t, "a Set of the key", Check(read(t, source)), api.ErrState)
	checks(t, map[string]api.Errno{
		"enum e { a } enum f { b } enum e { c }": api.ErrTwice,
		"enum e { e } enum f { e, f }":           api.OK,
		"enum e { a, A }":                        api.OK,
		"enum e { a, b, a }":                     api.ErrTwice,
		"enum e { a } enum E { a } role e { }":   api.OK,
		"role r { } role s { } role r { }":       api.ErrTwice,
		"role r { may a; may a; }":               api.ErrTwice,
		"role r { may a; may a.a; }":             api.ErrNone,
		"role r { may a.b; may b.a; }":           api.ErrNone,
		"role r { may a.b; may a.c; }":           api.ErrNone,
		"role r { sees a; may a; }":              api.ErrNone,
		"role r { sees a; sees b; sees a; }":     api.ErrTwice,
		"role r { sees a in s; sees a in t; }":   api.ErrTwice,
		"role r { sees a(a, b, a); }":            api.ErrTwice,
		"role r { sees a(a) in a; }":             api.ErrNone,
	})
}
