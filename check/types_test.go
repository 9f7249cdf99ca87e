package check

import (
	"strings"
	"testing"

	"switchyard/api"
)

// inType checks what Check says of a type that has this besides an attribute of
// each kind, a key, states and ports.
func inType(t *testing.T, parts string, wanted api.Errno) {
	t.Helper()
	s := "enum e { x, y } enum f { y, z } artifact a { attr k int; attr n int; attr b bool; attr c e; attr d f; attr t text; attr l list; key k; state s start; state u; state g final; in i 0..1; out o 0..1; " + parts + " }"
	want(t, parts, Check(read(t, s)), wanted)
	want(t, "behind another type: "+parts, Check(read(t, "artifact h { attr h int; key h; state h start; }"+s)), wanted)
}

func TestAttrs(t *testing.T) {
	for _, s := range []string{"true", "false", "msg", "len", "at", "push"} {
		inType(t, "attr "+s+" int;", api.ErrName)
		inType(t, "attr "+s+" e;", api.ErrName)
		inType(t, "attr "+s+" none;", api.ErrName)
	}
	for _, s := range []string{"int", "attr", "True", "lens", "a", "e", "s", "x", "when", "by", "none"} {
		inType(t, "attr "+s+" int;", api.OK)
		inType(t, "attr "+s+" e;", api.OK)
		inType(t, "attr "+s+" none;", api.ErrNone)
	}
	for s, wanted := range map[string]api.Errno{
		"attr q int;": api.OK, "attr q bool;": api.OK, "attr q text;": api.OK, "attr q list;": api.OK, "attr q e;": api.OK, "attr q f;": api.OK,
		"attr q a;": api.ErrNone, "attr q x;": api.ErrNone, "attr q k;": api.ErrNone, "attr q E;": api.ErrNone, "attr q ee;": api.ErrNone, "attr q Int;": api.ErrNone,
		"attr q e; attr r none;": api.ErrNone, "attr q none; attr r e;": api.ErrNone,
		"attr q none; attr len int;": api.ErrNone, "attr len int; attr q none;": api.ErrName,
	} {
		inType(t, s, wanted)
	}
	// Only attributes may not have a reserved name.
	checks(t, map[string]api.Errno{
		"enum len { msg, true } artifact at { attr k int; attr e len; key k; state push start; in msg 0..1; out false 0..1; move len: push -> push on msg when e == 'msg set e = 'true send false; } channel true: at.false -> at.msg by k for 1..1; milestone len: at push -> push by k for 1..1; role msg { sees at(k) in push; may at; }": api.OK,
	})
	// The enums may stand behind the types.
	checks(t, map[string]api.Errno{
		"artifact a { attr k e; key k; state s start; } enum e { x }": api.OK,
		"artifact a { attr k e; key k; state s start; } enum f { e }": api.ErrNone,
	})
}

func TestKey(t *testing.T) {
	checks(t, map[string]api.Errno{
		"artifact a { attr k int; state s start; }": api.ErrCount,
		"artifact a { }":                                                                                         api.ErrCount,
		"artifact a { state s; }":                                                                                api.ErrCount,
		"artifact a { key k; state s start; }":                                                                   api.ErrNone,
		"artifact a { attr k int; key n; state s start; }":                                                       api.ErrNone,
		"artifact a { attr k int; key k, n; state s start; }":                                                    api.ErrNone,
		"artifact a { attr k int; key n, k; state s start; }":                                                    api.ErrNone,
		"artifact a { attr k int; key s; state s start; }":                                                       api.ErrNone,
		"artifact a { attr k int; key K; state s start; }":                                                       api.ErrNone,
		"artifact a { attr k int; attr n text; key n; state s start; }":                                          api.OK,
		"artifact a { attr k int; attr n text; key n, k; state s start; }":                                       api.OK,
		"artifact a { attr k list; attr b bool; key k, b; state s start; }":                                      api.OK,
		"artifact b { attr n int; key n; state s start; } artifact a { attr k int; key n; state s start; }":      api.ErrNone,
		"artifact b { attr k int; key k; state s start; } artifact a { attr k int; state s start; }":             api.ErrCount,
		"artifact a { key k; state s; }":                                                                         api.ErrNone,
		"artifact a { attr len int; }":                                                                           api.ErrName,
		"artifact a { attr k none; }":                                                                            api.ErrNone,
		"artifact a { attr k int; key k; }":                                                                      api.ErrState,
		"artifact a { attr k int; key k; state s; }":                                                             api.ErrState,
		"artifact a { attr k int; key k; state s; state t final; }":                                              api.ErrState,
		"artifact a { attr k int; key k; state s start final; }":                                                 api.ErrState,
		"artifact a { attr k int; key k; state s start; state t start; }":                                        api.ErrState,
		"artifact a { attr k int; key k; state s start; state u; state t start; }":                               api.ErrState,
		"artifact a { attr k int; key k; state s start; state t start final; }":                                  api.ErrState,
		"artifact a { attr k int; key k; state s start final; state t start; }":                                  api.ErrState,
		"artifact a { attr k int; key k; state s start; state t final; state u final; }":                         api.OK,
		"artifact a { attr k int; key k; state t final; state s start; }":                                        api.OK,
		"artifact a { attr k int; key k; state s start; }":                                                       api.OK,
		"artifact b { attr k int; key k; state s start; } artifact a { attr k int; key k; state s; }":            api.ErrState,
		"artifact a { attr k int; key k; state s; in i 1..0; }":                                                  api.ErrState,
		"artifact a { attr k int; key k; state s; in i 1..0; move m: x -> s; }":                                  api.ErrState,
		"artifact b { attr k int; key k; state s start; } artifact a { attr k int; key k; state t; in i 0..0; }": api.ErrState,
	})
}

func TestPorts(t *testing.T) {
	for limits, wanted := range map[string]api.Errno{
		"0..0": api.ErrCount, "0..1": api.OK, "1..1": api.OK, "1..0": api.ErrCount, "2..1": api.ErrCount, "2..2": api.OK, "3..2": api.ErrCount,
		"0..1000": api.OK, "1000..1000": api.OK, "1001..1000": api.ErrCount, "0..1001": api.ErrCount, "1001..1001": api.ErrCount, "1002..1001": api.ErrCount,
		"0..2147483647": api.ErrCount, "2147483647..2147483647": api.ErrCount, "2147483647..0": api.ErrCount, "999..1000": api.OK,
	} {
		for _, port := range []string{"in p ", "out p "} {
			inType(t, port+limits+";", wanted)
			inType(t, "in q 0..1; "+port+limits+"; out r 0..1;", wanted)
			behind := wanted
			if wanted == api.OK {
				behind = api.ErrNone
			}
			inType(t, port+limits+"; move m: x -> s;", behind)
		}
	}
}

func TestMoves(t *testing.T) {
	for s, wanted := range map[string]api.Errno{
		"s -> u": api.OK, "s -> s": api.OK, "u -> g": api.OK, "s -> g": api.OK,
		"x -> s": api.ErrNone, "s -> x": api.ErrNone, "x -> x": api.ErrNone, "k -> s": api.ErrNone, "s -> i": api.ErrNone, "S -> s": api.ErrNone,
		"g -> s": api.ErrState, "g -> g": api.ErrState, "g -> x": api.ErrNone, "x -> g": api.ErrNone,
		"s -> s on i": api.OK, "s -> s on o": api.ErrNone, "s -> s on x": api.ErrNone, "s -> s on k": api.ErrNone, "s -> s on I": api.ErrNone,
		"g -> s on o":                             api.ErrState,
		"s -> s after 0":                          api.OK,
		"s -> s after 1":                          api.OK,
		"s -> s after 4503599627370496":           api.OK,
		"s -> s after 4503599627370497":           api.ErrArg,
		"s -> s after 9223372036854775807":        api.ErrArg,
		"s -> s on i after 4503599627370496":      api.OK,
		"s -> s on i after 4503599627370497":      api.ErrArg,
		"s -> s on o after 4503599627370497":      api.ErrNone,
		"g -> s after 4503599627370497":           api.ErrState,
		"s -> s after 4503599627370497 when k":    api.ErrArg,
		"s -> s after 4503599627370497 set k = 1": api.ErrArg,
		"s -> s send o":                           api.OK,
		"s -> s on i send o":                      api.OK,
		"s -> s send i":                           api.ErrNone,
		"s -> s on i send i":                      api.ErrNone,
		"s -> s send x":                           api.ErrNone,
		"s -> s send o send x":                    api.ErrNone,
		"s -> s send O":                           api.ErrNone,
		"s -> s when 1 send x":                    api.ErrKind,
		"s -> s set k = 1 send x":                 api.ErrState,
		"s -> s set n = b send x":                 api.ErrKind,
		"s -> s; move m2: g -> s":                 api.ErrState,
		"s -> s; move m2: x -> s":                 api.ErrNone,
		"s -> s on i; move m2: s -> s on o":       api.ErrNone,
	} {
		inType(t, "move m: "+s+";", wanted)
		inType(t, "move first: s -> u on i when b; move m: "+s+"; move last: u -> g on i;", wanted)
	}
}

// TestWhen: a When of each kind, with and without an On.
func TestWhen(t *testing.T) {
	for s, wanted := range map[string]api.Errno{
		"b": api.OK, "!b": api.OK, "true": api.OK, "false": api.OK, "n < k": api.OK, "c == 'x": api.OK, "c != 'z": api.ErrKind, "d == 'z": api.OK, "c == d": api.ErrKind, "c == c": api.OK, "'p == 'q": api.OK,
		"n": api.ErrKind, "0": api.ErrKind, "1": api.ErrKind, "c": api.ErrKind, "'x": api.ErrKind, "t": api.ErrKind, `"true"`: api.ErrKind, "l": api.ErrKind, "[]": api.ErrKind, "n + 1": api.ErrKind, "len(l)": api.ErrKind,
		"x": api.ErrName, "i": api.ErrName, "s": api.ErrName, "!x": api.ErrName, "b && x": api.ErrName, "n && x": api.ErrName, "!n && x": api.ErrKind, "n + 1 && b": api.ErrKind, "b < b": api.ErrKind,
		"msg.k": api.ErrName, "msg.b": api.ErrName, "b || msg.b": api.ErrName,
	} {
		inType(t, "move m: s -> s when "+s+";", wanted)
		inType(t, "move m: s -> s on i when "+s+";", wanted) // to which no channel leads
	}
	for s, bad := range map[string]api.Errno{
		"": api.OK, "b": api.OK, "msg.b": api.OK, "msg.b && b": api.OK, "msg.n == n": api.OK, "msg.c == 'x": api.OK, "msg.c == c": api.OK, "msg.c == 'z": api.ErrKind, "msg.n": api.ErrKind, "n": api.ErrKind, "!msg.n": api.ErrKind,
		"msg.k == 1": api.ErrName, "msg.x": api.ErrName, "x": api.ErrName, "msg.t": api.ErrName, "msg.only": api.OK, "only": api.ErrName,
	} {
		when := ""
		if s != "" {
			when = "when " + s
		}
		without := bad
		if strings.Contains(s, "msg.") {
			without = api.ErrName
		}
		for on, wanted := range map[string]api.Errno{"on i": bad, "on j": without, "": without} { // nothing is carried to j
			source := `enum e { x, y } enum f { y, z }
				artifact a { attr k int; attr n int; attr b bool; attr c e; attr t text; key k; state s start; in i 0..1; in j 0..1; move m: s -> s ` + on + " " + when + `; }
				artifact d { attr b bool; attr n int; attr c e; attr only bool; attr t int; key n; state s start; out o 0..1; in i 0..1; }
				channel j: d.o -> a.j by n for 1..1; channel i: d.o -> a.i by n for 1..1 carry n, b, c, only; channel t: d.o -> d.i by n for 1..1 carry t;`
			want(t, on+" "+when, Check(read(t, source)), wanted)
		}
	}
}

// TestSets: each kind of attribute gets what fits, and nothing else.
func TestSets(t *testing.T) {
	for attr, fitting := range map[string]string{
		"n": "1|n|k|-n|len(t)|at(l, 0)|msg.k", "b": "true|!b|n < 1|c == 'x|msg.b", "c": "'x|'y|c|msg.c", "d": "'y|'z|d",
		"t": `t|""|"x"|msg.t`, "l": "l|[]|[1, n]|push(l, 1)",
	} {
		for _, s := range strings.Split("1|n|k|-n|len(t)|at(l, 0)|true|!b|n < 1|c == 'x|'x|'y|'z|'other|c|d|t|\"\"|\"x\"|l|[]|[1, n]|push(l, 1)|msg.k|msg.b|msg.c|msg.t", "|") {
			wanted := api.ErrKind
			for _, one := range strings.Split(fitting, "|") {
				if one == s {
					wanted = api.OK
				}
			}
			set := "move m: s -> s on i set " + attr + " = " + s + ";"
			behind := "} channel q: a.o -> a.i by k for 1..1 carry k, b, c, t; role r { may a;"
			inType(t, set+behind, wanted)
			inType(t, "move m: s -> s on i set "+attr+" = "+s+" send o;"+behind, wanted)
			if strings.HasPrefix(s, "msg.") {
				wanted = api.ErrName
				inType(t, set, wanted)
			}
			inType(t, "move m: s -> s set "+attr+" = "+s+";"+behind, wanted)
		}
		inType(t, "move m: s -> s set "+attr+" = x;", api.ErrName)
		inType(t, "move m: s -> s set "+attr+" = msg.x;", api.ErrName)
		inType(t, "move m: s -> s set "+attr+" = !1;", api.ErrKind)
	}
	for s, wanted := range map[string]api.Errno{
		"set k = 1": api.ErrState, "set k = n": api.ErrState, "set k = b": api.ErrState, "set k = x": api.ErrState,
		"set x = 1": api.ErrNone, "set x = x": api.ErrNone, "set i = 1": api.ErrNone, "set s = 1": api.ErrNone, "set N = 1": api.ErrNone, "set msg = 1": api.ErrNone,
		"set n = 1 set k = 1": api.ErrState, "set n = 1 set x = 1": api.ErrNone, "set n = b set k = 1": api.ErrKind, "set n = x set k = 1": api.ErrName,
		"set k = 1 set n = b": api.ErrState, "set x = 1 set n = b": api.ErrNone, "set n = 1 set b = n == 1 set t = \"\"": api.OK, "set n = 1 set b = b set t = n": api.ErrKind,
		"when n set k = 1": api.ErrKind, "when x set n = b": api.ErrName, "when b set n = b": api.ErrKind,
	} {
		inType(t, "move m: s -> s "+s+";", wanted)
	}
	checks(t, map[string]api.Errno{
		"artifact a { attr k int; attr n int; attr m int; key k, n; state s start; move q: s -> s set m = 1; }": api.OK,
		"artifact a { attr k int; attr n int; attr m int; key k, n; state s start; move q: s -> s set n = 1; }": api.ErrState,
		"artifact a { attr k int; attr n int; attr m int; key n, k; state s start; move q: s -> s set k = 1; }": api.ErrState,
		"artifact a { attr k int; attr n int; key n; state s start; move q: s -> s set k = 1; }":                api.OK,
	})
}
