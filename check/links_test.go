package check

import (
	"strings"
	"testing"

	"switchyard/api"
)

// inDef checks what Check says of declarations besides two types, of which b
// has a key of two names.
func inDef(t *testing.T, s string, wanted api.Errno) {
	t.Helper()
	const types = `enum e { x, y } enum f { y, z }
		artifact a { attr k int; attr n int; attr b bool; attr c e; attr d f; attr t text; attr l list; key k; state s start; state u; state g final; in i 0..9; in j 0..9; out o 0..9; out p 0..9;
			move m: s -> u; move h: s -> s on i; }
		artifact b { attr k int; attr n text; attr c e; attr only int; key c, n; state s start; state v; state w final; in i 0..9; in q 0..9; out o 0..9; move mb: s -> v; move hb: s -> s on i; }
		`
	want(t, s, Check(read(t, types+s)), wanted)
	want(t, "ahead: "+s, Check(read(t, s+types)), wanted)
}

func TestChannelEnds(t *testing.T) {
	for ends, wanted := range map[string]api.Errno{
		"a.o -> a.i": api.OK, "a.p -> a.j": api.OK, "b.o -> a.i": api.OK,
		"x.o -> a.i": api.ErrNone, "a.x -> a.i": api.ErrNone, "a.i -> a.i": api.ErrNone, "A.o -> a.i": api.ErrNone, "a.O -> a.i": api.ErrNone, "e.o -> a.i": api.ErrNone, "b.p -> a.i": api.ErrNone,
		"a.o -> x.i": api.ErrNone, "a.o -> a.x": api.ErrNone, "a.o -> a.o": api.ErrNone, "a.o -> b.j": api.ErrNone, "a.o -> a.q": api.ErrNone, "a.k -> a.i": api.ErrNone, "a.o -> a.s": api.ErrNone, "a.m -> a.h": api.ErrNone,
		"x.x -> x.x": api.ErrNone, "a.i -> a.o": api.ErrNone,
	} {
		inDef(t, "channel q: "+ends+" by k for 1..1;", wanted)
		inDef(t, "channel h: a.p -> b.i by c, t for 1..1; channel q: "+ends+" by k for 1..1; channel z: a.p -> b.q by c, t for 1..1;", wanted)
		if wanted == api.ErrNone { // ahead of all else
			inDef(t, "channel q: "+ends+" by x, 'y for 2..1 spawn carry none;", api.ErrNone)
		}
	}
}

func TestChannelBy(t *testing.T) {
	for by, wanted := range map[string]api.Errno{
		"k": api.OK, "n": api.OK, "1": api.OK, "-k * 2": api.OK, "len(t)": api.OK, "at(l, 0)": api.OK,
		"b": api.ErrKind, "c": api.ErrKind, "t": api.ErrKind, "l": api.ErrKind, "'x": api.ErrKind, `"1"`: api.ErrKind, "true": api.ErrKind, "[1]": api.ErrKind, "k == 1": api.ErrKind, "k + b": api.ErrKind,
		"x": api.ErrName, "msg.k": api.ErrName, "k + x": api.ErrName, "i": api.ErrName, "only": api.ErrName, "b + x": api.ErrName,
		"k, k": api.ErrKind, "1, 2, 3": api.ErrKind, "k, x": api.ErrKind, "x, k": api.ErrKind, "msg.k, 1": api.ErrKind,
	} {
		inDef(t, "channel q: a.o -> a.i by "+by+" for 1..1;", wanted)
		inDef(t, "channel q: a.o -> a.i by "+by+" for 0..1000 spawn carry k, n;", wanted)
		if wanted != api.OK {
			inDef(t, "channel q: a.o -> a.i by "+by+" for 2..1 carry none;", wanted)
		}
	}
	// The key of b is of e and of a text.
	for by, wanted := range map[string]api.Errno{
		"c, t": api.OK, "'x, t": api.OK, `'y, ""`: api.OK, `c, "a"`: api.OK,
		"'z, t": api.ErrKind, "d, t": api.ErrKind, "'none, t": api.ErrKind, "t, c": api.ErrKind, "c, 'x": api.ErrKind, "c, n": api.ErrKind, "c, c": api.ErrKind, "n, t": api.ErrKind, "t, t": api.ErrKind,
		"c": api.ErrKind, "c, t, t": api.ErrKind, "c, t, c": api.ErrKind, "c, t, c, t": api.ErrKind, "t": api.ErrKind,
		"x, t": api.ErrName, "c, x": api.ErrName, "c, msg.t": api.ErrName, "x, 1": api.ErrName, "1, x": api.ErrKind, "d, x": api.ErrKind,
	} {
		inDef(t, "channel q: a.o -> b.i by "+by+" for 1..1;", wanted)
		inDef(t, "channel z: b.o -> b.i by c, n for 1..1 carry k; channel q: a.o -> b.i by "+by+" for 1..1 carry k;", wanted)
	}
	// The names are the sender's.
	inDef(t, "channel q: b.o -> a.i by only for 1..1;", api.OK)
	inDef(t, "channel q: b.o -> a.i by n for 1..1;", api.ErrKind)
	inDef(t, "channel q: b.o -> a.i by b for 1..1;", api.ErrName)
	// A field has no kind here, even where one comes at a port.
	inDef(t, "channel z: a.o -> a.i by k for 1..1 carry k; channel q: a.p -> a.i by msg.k for 1..1 carry k;", api.ErrName)
}

func TestChannelRange(t *testing.T) {
	for limits, wanted := range map[string]api.Errno{
		"0..1": api.OK, "1..1": api.OK, "0..1000": api.OK, "1000..1000": api.OK, "2..2": api.OK, "2..1000": api.OK,
		"0..0": api.ErrCount, "1..0": api.ErrCount, "2..1": api.ErrCount, "0..1001": api.ErrCount, "1001..1001": api.ErrCount, "1001..1000": api.ErrCount, "2147483647..2147483647": api.ErrCount, "0..2147483647": api.ErrCount,
		"0..1 spawn": api.OK, "1..1 spawn": api.OK, "0..1000 spawn": api.OK, "1..1000 spawn": api.OK, "1..2 spawn": api.OK,
		"2..2 spawn": api.ErrCount, "2..1000 spawn": api.ErrCount, "3..3 spawn": api.ErrCount, "2..1 spawn": api.ErrCount, "0..0 spawn": api.ErrCount, "1..1001 spawn": api.ErrCount, "1000..1000 spawn": api.ErrCount,
	} {
		inDef(t, "channel q: a.o -> a.i by k for "+limits+";", wanted)
		inDef(t, "channel h: a.p -> b.i by c, t for 1..1; channel q: b.o -> a.i by k for "+limits+" carry k;", wanted)
		if wanted != api.OK {
			inDef(t, "channel q: a.o -> a.i by k for "+limits+" carry none;", wanted)
			inDef(t, "channel h: a.o -> a.i by k for 1..1 carry k; channel q: a.o -> a.i by k for "+limits+" carry n;", wanted)
		}
	}
}

// TestCarry: what the channels to one port carry is the same.
func TestCarry(t *testing.T) {
	for carry, wanted := range map[string]api.Errno{
		"k": api.OK, "k, n": api.OK, "n, k": api.OK, "k, n, b, c, d, t, l": api.OK,
		"x": api.ErrNone, "k, x": api.ErrNone, "x, k": api.ErrNone, "i": api.ErrNone, "only": api.ErrNone, "K": api.ErrNone, "msg": api.ErrNone,
	} {
		inDef(t, "channel q: a.o -> a.i by k for 1..1 carry "+carry+";", wanted)
		inDef(t, "channel h: b.o -> a.j by k for 1..1 carry only; channel q: a.o -> a.i by k for 1..1 carry "+carry+";", wanted)
		if wanted == api.ErrNone { // ahead of what does not agree
			inDef(t, "channel h: b.o -> a.i by k for 1..1 carry only; channel q: a.o -> a.i by k for 1..1 carry "+carry+";", wanted)
		}
	}
	for _, c := range []struct {
		first, second string
		wanted        api.Errno
	}{
		{"a carry k", "a carry k", api.OK},
		{"a carry k", "b carry k", api.OK},
		{"a carry c", "b carry c", api.OK},
		{"a carry c, k", "b carry c, k", api.OK},
		{"a", "a", api.OK},
		{"a", "b", api.OK},
		{"a carry k", "a carry n", api.ErrKind},       // names
		{"a carry n", "b carry n", api.ErrKind},       // kinds
		{"a carry k, n", "b carry k, n", api.ErrKind}, // the kind of the second one
		{"a carry k, n", "a carry n, k", api.ErrKind}, // orders
		{"a carry c, k", "b carry k, c", api.ErrKind}, // orders
		{"a carry k", "a carry k, n", api.ErrKind},    // one more
		{"a carry k, n", "a carry k", api.ErrKind},    // one less
		{"a carry k, n, t", "a carry k, n", api.ErrKind},
		{"a carry k", "a", api.ErrKind},
		{"a", "a carry k", api.ErrKind},
		{"a carry c", "a carry d", api.ErrKind},
	} {
		source := func(port string) string {
			write := func(name, from string) string {
				typ, carry, _ := strings.Cut(from, " ")
				return "channel " + name + ": " + typ + ".o -> a." + port + " by k for 1..1 " + carry + "; "
			}
			return write("q", c.first) + write("r", c.second)
		}
		inDef(t, source("i"), c.wanted)
		inDef(t, "channel h: a.o -> a.j by k for 1..1 carry t; "+source("i"), c.wanted)
		inDef(t, "channel h: a.o -> b.i by c, t for 1..1 carry t; "+source("i"), c.wanted)
		inDef(t, source("i")+"channel z: a.p -> a.j by k for 1..1 carry t;", c.wanted)
		// To two ports they may carry what they like.
		inDef(t, strings.Replace(source("i"), "a.i", "a.j", 1), api.OK)
		inDef(t, strings.Replace(source("i"), "a.i by k", "b.i by 'x, \"\"", 1), api.OK)
	}
	// The same names of attributes of two enums; and a third channel.
	const enums = `enum e { x } enum f { x } artifact a { attr k int; attr c e; key k; state s start; in i 0..1; out o 0..1; } artifact b { attr k int; attr c f; key k; state s start; out o 0..1; }
		artifact d { attr k int; attr c e; key k; state s start; out o 0..1; } `
	checks(t, map[string]api.Errno{
		enums + "channel q: a.o -> a.i by k for 1..1 carry c; channel r: b.o -> a.i by k for 1..1 carry c;":                                                    api.ErrKind,
		enums + "channel q: a.o -> a.i by k for 1..1 carry c; channel r: d.o -> a.i by k for 1..1 carry c;":                                                    api.OK,
		enums + "channel q: a.o -> a.i by k for 1..1 carry c; channel r: d.o -> a.i by k for 1..1 carry c; channel s: b.o -> a.i by k for 1..1 carry c;":       api.ErrKind,
		enums + "channel q: a.o -> a.i by k for 1..1 carry c, k; channel r: d.o -> a.i by k for 1..1 carry c, k; channel s: d.o -> a.i by k for 1..1 carry c;": api.ErrKind,
	})
}

// conditions checks a place of a condition, at the ? of a source, in which the
// attributes of a may be named.
func conditions(t *testing.T, word, source string) {
	t.Helper()
	for s, wanted := range map[string]api.Errno{
		"b": api.OK, "!b": api.OK, "true": api.OK, "k < n": api.OK, "c == 'x": api.OK, "d == 'z && t == \"\"": api.OK, "at(l, 0) == 1": api.OK, "'p == 'q": api.OK,
		"k": api.ErrKind, "0": api.ErrKind, "c": api.ErrKind, "'x": api.ErrKind, "t": api.ErrKind, "l": api.ErrKind, "c == 'z": api.ErrKind, "c == d": api.ErrKind, "k == b": api.ErrKind, "b + 1": api.ErrKind, "-k": api.ErrKind,
		"x": api.ErrName, "only == 1": api.ErrName, "msg.k == 1": api.ErrName, "msg.b": api.ErrName, "i": api.ErrName, "s": api.ErrName, "k && x": api.ErrName, "!k && x": api.ErrKind,
	} {
		inDef(t, strings.ReplaceAll(source, "?", word+" "+s), wanted)
	}
	inDef(t, strings.ReplaceAll(source, "?", ""), api.OK)
	// A field has no kind, even where one comes to the type.
	inDef(t, "channel q: a.o -> a.i by k for 1..1 carry b; "+strings.ReplaceAll(source, "?", word+" msg.b"), api.ErrName)
}

func TestGroups(t *testing.T) {
	for s, wanted := range map[string]api.Errno{
		"a s -> u by n for 1..1": api.OK, "a s -> s by n for 1..1": api.OK, "a u -> g by k for 1..1": api.OK, "b s -> v by only for 1..1": api.OK, "a s -> u by l for 1..1": api.OK, "a s -> u by c for 1..1": api.OK,
		"x s -> u by n for 1..1": api.ErrNone, "A s -> u by n for 1..1": api.ErrNone, "e s -> u by n for 1..1": api.ErrNone,
		"a x -> u by n for 1..1": api.ErrNone, "a s -> x by n for 1..1": api.ErrNone, "a v -> u by n for 1..1": api.ErrNone, "a s -> v by n for 1..1": api.ErrNone, "a S -> u by n for 1..1": api.ErrNone, "a k -> u by n for 1..1": api.ErrNone,
		"a g -> s by n for 1..1": api.ErrState, "a g -> g by n for 1..1": api.ErrState, "a g -> x by n for 1..1": api.ErrNone, "a x -> g by n for 1..1": api.ErrNone, "a g -> s by x for 0..0": api.ErrState,
		"a s -> u by x for 1..1": api.ErrNone, "a s -> u by only for 1..1": api.ErrNone, "a s -> u by s for 1..1": api.ErrNone, "a s -> u by N for 1..1": api.ErrNone, "a s -> u by x for 0..1": api.ErrNone, "a s -> u by x for 2..1 when k": api.ErrNone,
		"a s -> u by n for 0..1": api.ErrCount, "a s -> u by n for 0..0": api.ErrCount, "a s -> u by n for 2..1": api.ErrCount, "a s -> u by n for 1..0": api.ErrCount, "a s -> u by n for 1..1001": api.ErrCount, "a s -> u by n for 1001..1001": api.ErrCount, "a s -> u by n for 1001..1000": api.ErrCount, "a s -> u by n for 1..2147483647": api.ErrCount,
		"a s -> u by n for 1..1000": api.OK, "a s -> u by n for 1000..1000": api.OK, "a s -> u by n for 2..3": api.OK, "a s -> u by n for 999..1000": api.OK,
		"a s -> u by n for 0..1 when k": api.ErrCount, "a s -> u by n for 0..1 when x": api.ErrCount,
	} {
		inDef(t, "milestone q: "+s+";", wanted)
		inDef(t, "milestone h: b s -> w by n for 1..1; milestone q: "+s+"; milestone z: a s -> s by k for 2..2;", wanted)
	}
	conditions(t, "when", "milestone q: a s -> u by n for 1..1 ?;")
	conditions(t, "when", "milestone h: b s -> v by n for 1..1 when only < k; milestone q: a s -> u by n for 1..1 ?;")
}

func TestSights(t *testing.T) {
	for s, wanted := range map[string]api.Errno{
		"a": api.OK, "a(k)": api.OK, "a(k, n, b, c, d, t, l)": api.OK, "a in s": api.OK, "a in g, s, u": api.OK, "a(n) in u where b": api.OK, "b(only) in v": api.OK,
		"x": api.ErrNone, "A": api.ErrNone, "e": api.ErrNone, "x where b": api.ErrNone, "x(k) in s": api.ErrNone,
		"a(x)": api.ErrNone, "a(k, x)": api.ErrNone, "a(x, k)": api.ErrNone, "a(only)": api.ErrNone, "a(s)": api.ErrNone, "a(K)": api.ErrNone, "a(i)": api.ErrNone,
		"a in x": api.ErrNone, "a in s, x": api.ErrNone, "a in v": api.ErrNone, "a in k": api.ErrNone, "a(k) in S": api.ErrNone, "a(x) in s where b": api.ErrNone,
		"a(x) where k": api.ErrNone, "a in x where k": api.ErrNone, "a where k": api.ErrKind, "a where x": api.ErrName,
	} {
		inDef(t, "role q { sees "+s+"; }", wanted)
		inDef(t, "role h { sees b(k) in s; sees a; } role q { sees "+s+"; may a; } role z { may b.mb; }", wanted)
		if wanted != api.OK {
			inDef(t, "role q { sees "+s+"; may a.h; }", wanted)
			inDef(t, "role q { may a.h; sees "+s+"; }", wanted) // the sights are ahead
			inDef(t, "role q { may a.h; } role r { sees "+s+"; }", api.ErrState)
		}
	}
	conditions(t, "where", "role q { sees a ?; }")
	conditions(t, "where", "role q { sees a(k) in s, g ?; sees b where only < k; may a; }")
	conditions(t, "where", "role h { sees b(k) where only < k; may b; } role q { sees b; sees a(k) ?; }")
}

func TestRights(t *testing.T) {
	for s, wanted := range map[string]api.Errno{
		"a": api.OK, "b": api.OK, "a.m": api.OK, "b.mb": api.OK,
		"x": api.ErrNone, "A": api.ErrNone, "e": api.ErrNone, "x.m": api.ErrNone, "x.h": api.ErrNone,
		"a.x": api.ErrNone, "a.mb": api.ErrNone, "a.M": api.ErrNone, "a.s": api.ErrNone, "a.i": api.ErrNone, "a.hb": api.ErrNone,
		"a.h": api.ErrState, "b.hb": api.ErrState, "b.h": api.ErrNone,
	} {
		inDef(t, "role q { may "+s+"; }", wanted)
		inDef(t, "role h { may a; may b; may b.mb; may a.m; } role q { may "+s+"; }", wanted)
		if wanted != api.OK {
			inDef(t, "role q { sees a(k); may a; may "+s+"; may b; } role r { sees x; }", wanted)
			other := "a.h" // of the other error
			if wanted == api.ErrState {
				other = "x"
			}
			inDef(t, "role q { may "+s+"; may "+other+"; }", wanted)
		}
	}
	checks(t, map[string]api.Errno{
		"artifact a { attr k int; key k; state s start; in i 0..1; move m: s -> s on i; move n: s -> s; } role r { may a.n; may a.m; }": api.ErrState,
		"artifact a { attr k int; key k; state s start; in i 0..1; move m: s -> s on i; move n: s -> s; } role r { may a.n; }":          api.OK,
		"role r { may a.b; }": api.ErrNone,
		"role r { may a; }":   api.ErrNone,
		"role r { sees a; }":  api.ErrNone,
		"role r { }":          api.OK,
	})
}
