package check

import (
	"slices"
	"strings"
	"testing"

	"switchyard/api"
	"switchyard/eval"
	"switchyard/expr"
)

// values are some of each kind; of a Sym, those of its enum.
func values(d api.Def, a api.Attr) []api.Value {
	switch a.Kind {
	case api.Int:
		return []api.Value{{Kind: api.Int}, {Kind: api.Int, Num: 1}, {Kind: api.Int, Num: -1 << 63}}
	case api.Bool:
		return []api.Value{{Kind: api.Bool}, {Kind: api.Bool, Num: 1}}
	case api.Text:
		return []api.Value{{Kind: api.Text}, {Kind: api.Text, Text: "x"}}
	case api.List:
		return []api.Value{{Kind: api.List}, {Kind: api.List, List: []int64{1, 2}}, {Kind: api.List, List: make([]int64, 16)}}
	}
	var out []api.Value
	for _, e := range d.Enums {
		for _, s := range e.Syms {
			if e.Name == a.Enum {
				out = append(out, api.Value{Kind: api.Sym, Text: s})
			}
		}
	}
	return out
}

// some returns a value of the kind of each attribute.
func (r *dice) some(d api.Def, l []api.Attr) []api.Value {
	var out []api.Value
	for _, a := range l {
		all := values(d, a)
		out = append(out, all[r.below(len(all))])
	}
	return out
}

// source returns an expression that looks thrown, mostly of some kind.
func (r *dice) source(kind, deep int) string {
	if r.below(12) == 0 {
		kind = 1 + r.below(5) // which is seldom right
	}
	sub := func(kind int) string { return r.source(kind, deep-1) }
	pick := func(l ...string) string { return l[r.below(len(l))] }
	leaf := deep <= 0 || r.below(4) == 0
	switch kind {
	case api.Int:
		if leaf {
			return pick("0", "3", "n", "k", "msg.n")
		}
		return pick("-"+sub(1), "("+sub(1)+pick(" + ", " - ", " * ", " / ", " % ")+sub(1)+")", "len("+sub(pickKind(r))+")", "at("+sub(5)+", "+sub(1)+")")
	case api.Bool:
		if leaf {
			return pick("true", "b", "msg.b")
		}
		same := 1 + r.below(5)
		return pick("!"+sub(2), "("+sub(2)+pick(" && ", " || ")+sub(2)+")", "("+sub(same)+pick(" == ", " != ")+sub(same)+")", "("+sub(1)+pick(" < ", " >= ")+sub(1)+")", "("+sub(3)+pick(" <= ", " > ")+sub(3)+")")
	case api.Text:
		return pick(`""`, `"x"`, "t", "msg.t")
	case api.Sym:
		return pick("'x", "'y", "'z", "c", "d", "msg.c")
	}
	if leaf {
		return pick("l", "msg.l", "[]")
	}
	return pick("["+sub(1)+", "+sub(1)+"]", "push("+sub(5)+", "+sub(1)+")")
}

func pickKind(r *dice) int { return []int{api.List, api.Text}[r.below(2)] }

// never checks that an expression does not fail with ErrKind, and that its
// value is of a kind.
func never(t *testing.T, e api.Expr, v eval.Env, kind int) {
	t.Helper()
	got, bad := eval.Of(e, v)
	s, _ := expr.Print(e)
	want(t, "ErrKind of "+s, bad == api.ErrKind, false)
	want(t, "ErrNone of "+s, bad == api.ErrNone, false)
	want(t, "kind of "+s, bad != api.OK || got.Kind == kind, true)
}

// TestKinds: P12.5, no expression of a valid choreography fails with ErrKind,
// nor for a name that is missing.
func TestKinds(t *testing.T) {
	const source = `enum e { x, y } enum f { y, z }
		artifact a { attr k int; attr n int; attr b bool; attr t text; attr u text; attr c e; attr d f; attr l list; key k, c, u; state s start; in i 0..9; in j 0..9; out o 0..9;
			move m: s -> s on i when BOOL set n = INT set b = BOOL set t = TEXT set d = SYM set l = LIST send o; }
		channel h: a.o -> a.i by 1, 'x, "" for 1..1 carry n, b, t, c, l;
		channel q: a.o -> a.j by INT, SYM, TEXT for 1..1;
		milestone g: a s -> s by k for 1..1 when BOOL; role r { sees a where BOOL; }`
	r := new(dice(5))
	valid, failing := 0, 0
	for range 20000 {
		s := source
		for kind, word := range []string{api.Int: "INT", api.Bool: "BOOL", api.Text: "TEXT", api.Sym: "SYM", api.List: "LIST"} {
			for word != "" && strings.Contains(s, word) {
				s = strings.Replace(s, word, r.source(kind, 2), 1)
			}
		}
		d := read(t, s)
		if bad := Check(d); bad != api.OK {
			want(t, "error of "+s, bad == api.ErrKind || bad == api.ErrName, true)
			failing++
			continue
		}
		valid++
		one := d.Types[0]
		for range 5 {
			v := eval.Env{Attrs: one.Attrs, Vals: r.some(d, one.Attrs)}
			never(t, d.Groups[0].When, v, api.Bool)
			never(t, d.Roles[0].Sees[0].Where, v, api.Bool)
			for i, e := range d.Channels[1].By {
				never(t, e, v, one.Attrs[Place(one.Attrs, one.Key[i])].Kind)
			}
			v.Names = Fields(d, "a", "i")
			v.Fields = r.some(d, v.Names)
			never(t, one.Moves[0].When, v, api.Bool)
			for _, set := range one.Moves[0].Sets {
				a := one.Attrs[Place(one.Attrs, set.Attr)]
				never(t, set.To, v, a.Kind)
				got, bad := eval.Of(set.To, v)
				if bad == api.OK && a.Kind == api.Sym {
					want(t, "a symbol of the enum: "+s, slices.ContainsFunc(values(d, a), func(v api.Value) bool { return v.Text == got.Text }), true)
				}
			}
		}
	}
	want(t, "valid ones, at least", max(valid, 100), valid)
	want(t, "ones that are not, at least", max(failing, 1000), failing)
}
