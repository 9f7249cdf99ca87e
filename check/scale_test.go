package check

import (
	"math/big"
	"strconv"
	"strings"
	"testing"

	"switchyard/api"
)

// ways is a source of types a, b and so on, each of which has the in ports i0,
// i1 and so on and the out ports o0, o1 and so on. A move is written as
// "a i0: o1 o2", with a - in the place of the port if there is no On, and a
// channel as "a.o1 -> b.i0 3", with its High.
func ways(types, ports int, parts string) string {
	moves, channels := make([]string, types), ""
	for i, part := range strings.Split(parts, ";") {
		words := strings.Fields(part)
		switch {
		case len(words) == 0:
		case words[1] == "->":
			channels += "channel c" + strconv.Itoa(i) + ": " + words[0] + " -> " + words[2] + " by k for 0.." + words[3] + ";\n"
		default:
			on := " on " + strings.TrimSuffix(words[1], ":")
			if words[1] == "-:" {
				on = ""
			}
			move := "move m" + strconv.Itoa(i) + ": s -> s" + on
			for _, port := range words[2:] {
				move += " send " + port
			}
			moves[words[0][0]-'a'] += move + ";\n"
		}
	}
	s := ""
	for i := range types {
		s += "artifact " + string(rune('a'+i)) + " { attr k int; key k; state s start; " + row("in i# 0..9; ", "", ports) + row("out o# 0..9; ", "", ports) + moves[i] + "}\n"
	}
	return s + channels
}

// goes checks whether ways are acyclic, and the weights of in ports.
func goes(t *testing.T, types int, parts string, wanted map[string]int) {
	t.Helper()
	d := read(t, ways(types, 5, parts))
	want(t, "Check of "+parts, Check(d), api.OK)
	want(t, "Acyclic of "+parts, Acyclic(d), wanted != nil)
	for i := range types {
		typ := string(rune('a' + i))
		for j := range 5 {
			port := strconv.Itoa(j)
			weight, told := wanted[typ+".i"+port]
			if wanted != nil && !told {
				weight = 1
			}
			want(t, "weight of "+typ+".i"+port+" in "+parts, Weight(d, typ, "i"+port), weight)
			want(t, "weight of an out port in "+parts, Weight(d, typ, "o"+port), 0)
		}
		for _, port := range []string{"", "i5", "i", "s", "k", "m0", "I0", "i0 "} {
			want(t, "weight of no port in "+parts, Weight(d, typ, port), 0)
		}
	}
	for _, typ := range []string{"", "z", "A", "i0", "c0"} {
		want(t, "weight of no type in "+parts, Weight(d, typ, "i0"), 0)
	}
}

// TestWays: P12.3 and P12.4, ways by hand. Ports that are not told weigh 1; nil
// is for what is not acyclic.
func TestWays(t *testing.T) {
	for _, c := range []struct {
		types  int
		parts  string
		wanted map[string]int
	}{
		{1, "", map[string]int{}},
		{3, "", map[string]int{}},
		{1, "a i0: o0", map[string]int{}},                // nothing leads on
		{1, "a.o0 -> a.i0 5", map[string]int{}},          // nothing sends
		{1, "a -: o0; a.o0 -> a.i0 5", map[string]int{}}, // a send without an On
		{1, "a i0: o0; a -: o1; a.o0 -> a.i1 2; a.o1 -> a.i0 3", map[string]int{"a.i0": 3}},
		{1, "a i0: o1; a.o0 -> a.i0 5", map[string]int{}}, // another port is sent
		{1, "a i0: o0; a.o0 -> a.i0 1", nil},              // a round of one
		{1, "a i0: o0; a.o0 -> a.i0 5", nil},
		{1, "a i0:; a i0: o1; a i0: o1 o0; a.o0 -> a.i0 1", nil},
		{1, "a i0: o0; a.o0 -> a.i1 1", map[string]int{"a.i0": 2}}, // a chain
		{1, "a i0: o0; a.o0 -> a.i1 7", map[string]int{"a.i0": 8}},
		{1, "a i0: o0; a.o0 -> a.i1 1000", map[string]int{"a.i0": 1001}},
		{1, "a i0: o0; a i1: o1; a.o0 -> a.i1 2; a.o1 -> a.i2 3", map[string]int{"a.i0": 9, "a.i1": 4}},
		{1, "a i1: o1; a.o1 -> a.i2 3; a i0: o0; a.o0 -> a.i1 2", map[string]int{"a.i0": 9, "a.i1": 4}},
		{1, "a i2: o1; a.o1 -> a.i1 3; a i1: o0; a.o0 -> a.i0 2", map[string]int{"a.i2": 10, "a.i1": 3}},
		{1, "a i0: o0; a i1: o1; a.o0 -> a.i1 1; a.o1 -> a.i0 1", nil}, // a round of two
		{1, "a i0: o0; a i1: o1; a i2: o2; a.o0 -> a.i1 1; a.o1 -> a.i2 1; a.o2 -> a.i0 1", nil},
		{1, "a i0: o0; a i1: o1; a i2: o2; a.o0 -> a.i1 1; a.o1 -> a.i2 1; a.o2 -> a.i1 1", nil}, // a round behind i0
		{1, "a i0: o0; a i1: o1; a i2: o2; a.o0 -> a.i1 1; a.o1 -> a.i2 1; a.o2 -> a.i3 1", map[string]int{"a.i0": 4, "a.i1": 3, "a.i2": 2}},
		{2, "a i0: o0; b i0: o0; a.o0 -> b.i0 1; b.o0 -> a.i0 1", nil},
		{2, "a i0: o0; b i0: o0; a.o0 -> b.i0 1; b.o0 -> a.i1 1", map[string]int{"a.i0": 3, "b.i0": 2}},
		{2, "a i0: o0; b i0: o0; a.o0 -> b.i0 1; b.o1 -> a.i0 1", map[string]int{"a.i0": 2}},
		{2, "a i0: o0; b i1: o0; a.o0 -> b.i0 1; b.o0 -> a.i0 1", map[string]int{"b.i1": 3, "a.i0": 2}},
		{2, "a i0: o0; b i0: o0; b.o0 -> b.i1 3", map[string]int{"b.i0": 4}}, // the type counts, not the port's name alone
		{3, "a i0: o0; b i0: o0; c i0: o0; a.o0 -> b.i0 1; b.o0 -> c.i0 1; c.o0 -> a.i0 1", nil},
		{3, "a i0: o0; b i0: o0; a.o0 -> b.i0 1; b.o0 -> c.i0 1; c.o0 -> a.i0 1", map[string]int{"a.i0": 3, "b.i0": 2}},
		// Two ways to one port.
		{1, "a i0: o0 o1; a.o0 -> a.i1 2; a.o1 -> a.i1 3", map[string]int{"a.i0": 6}},
		{1, "a i0: o0 o1; a i1: o2; a i2: o3; a.o0 -> a.i1 1; a.o1 -> a.i2 1; a.o2 -> a.i3 1; a.o3 -> a.i3 1", map[string]int{"a.i0": 5, "a.i1": 2, "a.i2": 2}},
		{1, "a i0: o0; a.o0 -> a.i1 2; a.o0 -> a.i1 3", map[string]int{"a.i0": 6}}, // channels from one port
		{1, "a i0: o0; a i1: o1; a.o0 -> a.i1 2; a.o0 -> a.i2 3; a.o1 -> a.i2 4", map[string]int{"a.i0": 14, "a.i1": 5}},
		// The heaviest move counts alone, of all its Sends.
		{1, "a i0: o0; a i0: o1; a.o0 -> a.i1 2; a.o1 -> a.i1 3", map[string]int{"a.i0": 4}},
		{1, "a i0: o1; a i0: o0; a i0:; a.o0 -> a.i1 2; a.o1 -> a.i1 3", map[string]int{"a.i0": 4}},
		{1, "a i0: o0 o1; a i0: o2; a -: o0 o1 o2; a i1: o0 o1 o2; a.o0 -> a.i2 2; a.o1 -> a.i2 3; a.o2 -> a.i2 4", map[string]int{"a.i0": 6, "a.i1": 10}},
		{1, "a i0: o0; a i0: o1; a i1: o2; a.o0 -> a.i1 2; a.o1 -> a.i2 9; a.o2 -> a.i2 4", map[string]int{"a.i0": 11, "a.i1": 5}},
		{1, "a i0: o0 o1 o2 o3 o4; a.o0 -> a.i1 1; a.o1 -> a.i1 10; a.o2 -> a.i2 100; a.o3 -> a.i3 1000; a.o4 -> a.i3 1000", map[string]int{"a.i0": 2112}},
	} {
		goes(t, c.types, c.parts, c.wanted)
	}
}

// TestHeavy: weights about 2^40.
func TestHeavy(t *testing.T) {
	// The ports from i1 on weigh 1001001001001, 1001001001, 1001001, 1001 and 1.
	const chain = "; a i1: o1; a i2: o2; a i3: o3; a i4: o4; a.o1 -> a.i2 1000; a.o2 -> a.i3 1000; a.o3 -> a.i4 1000; a.o4 -> b.i0 1000"
	weights := map[string]int{"a.i1": 1001001001001, "a.i2": 1001001001, "a.i3": 1001001, "a.i4": 1001}
	const most = 1 << 40
	for first, wanted := range map[string]int{
		"":                  1,
		"a.o0 -> a.i1 1":    1001001001002,
		"a.o0 -> a.i1 2":    most,
		"a.o0 -> a.i1 1000": most,
		"a.o0 -> a.i2 1000": 1001001001001,
		"a.o0 -> a.i2 1000; a.o0 -> a.i2 98; a.o0 -> a.i3 412; a.o0 -> a.i4 116; a.o0 -> b.i0 147": most - 2,
		"a.o0 -> a.i2 1000; a.o0 -> a.i2 98; a.o0 -> a.i3 412; a.o0 -> a.i4 116; a.o0 -> b.i0 148": most - 1,
		"a.o0 -> a.i2 1000; a.o0 -> a.i2 98; a.o0 -> a.i3 412; a.o0 -> a.i4 116; a.o0 -> b.i0 149": most,
		"a.o0 -> a.i2 1000; a.o0 -> a.i2 98; a.o0 -> a.i3 412; a.o0 -> a.i4 116; a.o0 -> b.i0 150": most,
		"a.o0 -> a.i1 1; a.o0 -> a.i2 98; a.o0 -> a.i3 412; a.o0 -> a.i4 116; a.o0 -> b.i0 147":    most - 1,
		"a.o0 -> a.i1 1; a.o0 -> a.i2 98; a.o0 -> a.i3 412; a.o0 -> a.i4 116; a.o0 -> b.i0 148":    most,
	} {
		weights["a.i0"] = wanted
		goes(t, 2, "a i0: o0;"+first+chain, weights)
	}
	// A chain of all the channels that there may be, with all the weight there is.
	var parts []string
	weights = map[string]int{}
	weight := new(big.Int)
	for i := range 16 {
		typ, next := string(rune('a'+15-i)), string(rune('a'+16-i))
		weight.Add(weight.Mul(weight, big.NewInt(1000)), big.NewInt(1))
		weights[typ+".i0"] = most
		if weight.Cmp(big.NewInt(most)) < 0 {
			weights[typ+".i0"] = int(weight.Int64())
		}
		if i > 0 {
			parts = append(parts, typ+" i0: o0", typ+".o0 -> "+next+".i0 1000")
		}
	}
	goes(t, 16, strings.Join(parts, ";"), weights)
	goes(t, 16, strings.Join(parts, ";")+";p i0: o0; p.o0 -> a.i0 1", nil)
}

// TestManyMoves: the same ways by many moves at each port, of which there are
// more than could be gone one by one.
func TestManyMoves(t *testing.T) {
	s, wanted := "", 1
	for i := range 12 {
		s += "artifact " + string(rune('a'+i)) + " { attr k int; key k; state s start; in i 0..1; out o 0..1;" + row("move m#: s -> s on i send o; ", "", 14) + "} "
		if i > 0 {
			s += "channel c" + strconv.Itoa(i) + ": " + string(rune('a'+i-1)) + ".o -> " + string(rune('a'+i)) + ".i by k for 1..2; "
			wanted = 1 + 2*wanted
		}
	}
	d := read(t, s)
	want(t, "Check", Check(d), api.OK)
	want(t, "Acyclic", Acyclic(d), true)
	want(t, "Weight", Weight(d, "a", "i"), wanted)
	d = read(t, s+"channel d: l.o -> a.i by k for 0..1;")
	want(t, "Check of a round", Check(d), api.OK)
	want(t, "Acyclic of a round", Acyclic(d), false)
	want(t, "Weight of a round", Weight(d, "a", "i"), 0)
}

// TestNotValid: what is not valid is not acyclic, and weighs nothing.
func TestNotValid(t *testing.T) {
	const parts = "a i0: o0; a.o0 -> a.i1 7"
	for _, wrong := range []string{"role r { sees x; }", "role r { } role r { }", "enum e { a, a }", "milestone m: a s -> s by k for 0..1;", "channel d: a.o0 -> a.i0 by k, k for 1..1;", "channel d: a.o0 -> a.i0 by k for 1..0;"} {
		d := read(t, ways(1, 5, parts)+wrong)
		want(t, "valid with "+wrong, Check(d) != api.OK, true)
		want(t, "Acyclic with "+wrong, Acyclic(d), false)
		want(t, "Weight with "+wrong, Weight(d, "a", "i0"), 0)
		want(t, "Weight with "+wrong, Weight(d, "a", "i1"), 0)
	}
}

// graph is what a choreography's ways are by the chapter's words.
type graph struct {
	d     api.Def
	ports []place
}

func graphOf(d api.Def) graph {
	g := graph{d: d}
	for _, one := range d.Types {
		for _, p := range one.Ports {
			if !p.Out {
				g.ports = append(g.ports, place{one.Name, p.Name})
			}
		}
	}
	return g
}

// moves returns what each move on a port sends, as channels.
func (g graph) moves(p place) [][]api.Channel {
	var out [][]api.Channel
	for _, one := range g.d.Types {
		for _, m := range one.Moves {
			if one.Name != p.typ || m.On != p.port {
				continue
			}
			var sent []api.Channel
			for _, port := range m.Sends {
				for _, c := range g.d.Channels {
					if c.From == p.typ && c.FromPort == port {
						sent = append(sent, c)
					}
				}
			}
			out = append(out, sent)
		}
	}
	return out
}

// round reports whether some sequence of steps leads from a port to itself.
func (g graph) round() bool {
	reached := map[[2]place]bool{}
	for _, p := range g.ports {
		for _, sent := range g.moves(p) {
			for _, c := range sent {
				reached[[2]place{p, {c.To, c.ToPort}}] = true
			}
		}
	}
	for _, over := range g.ports {
		for _, from := range g.ports {
			for _, to := range g.ports {
				if reached[[2]place{from, over}] && reached[[2]place{over, to}] {
					reached[[2]place{from, to}] = true
				}
			}
		}
	}
	for _, p := range g.ports {
		if reached[[2]place{p, p}] {
			return true
		}
	}
	return false
}

// weight returns the weight of a port, however great, if there is no round.
func (g graph) weight(p place) *big.Int {
	most := new(big.Int)
	for _, sent := range g.moves(p) {
		sum := new(big.Int)
		for _, c := range sent {
			one := g.weight(place{c.To, c.ToPort})
			sum.Add(sum, one.Mul(one, big.NewInt(int64(c.High))))
		}
		if sum.Cmp(most) > 0 {
			most = sum
		}
	}
	return most.Add(most, big.NewInt(1))
}

// TestAnyWays: ways by chance, held against the chapter's words.
func TestAnyWays(t *testing.T) {
	r := new(dice(12))
	highs := []int{1, 2, 3, 10, 999, 1000}
	rounds, acyclic := 0, 0
	for range 1500 {
		types, n := 1+r.below(4), 2+r.below(4)
		typ := func() string { return string(rune('a' + r.below(types))) }
		port := func(s string) string { return s + strconv.Itoa(r.below(n)) }
		var parts []string
		for range 2 + r.below(3*types) {
			on := port("i")
			if r.below(4) == 0 {
				on = "-"
			}
			parts = append(parts, typ()+" "+on+": "+[]string{"", "o0", port("o"), "o0 o1", "o1 o0"}[r.below(5)])
		}
		for range 1 + r.below(4+2*types) {
			parts = append(parts, typ()+"."+port("o")+" -> "+typ()+"."+port("i")+" "+strconv.Itoa(highs[r.below(len(highs))]))
		}
		d := read(t, ways(types, n, strings.Join(parts, "; ")))
		want(t, "Check", Check(d), api.OK)
		g := graphOf(d)
		round := g.round()
		want(t, "Acyclic of "+strings.Join(parts, "; "), Acyclic(d), !round)
		if round {
			rounds++
		} else {
			acyclic++
		}
		for _, p := range g.ports {
			wanted := 0
			if !round {
				exact := g.weight(p)
				wanted = 1 << 40
				if exact.Cmp(big.NewInt(1<<40)) < 0 {
					wanted = int(exact.Int64())
				}
			}
			want(t, "weight of "+p.typ+"."+p.port+" in "+strings.Join(parts, "; "), Weight(d, p.typ, p.port), wanted)
		}
	}
	want(t, "rounds, at least", max(rounds, 300), rounds)
	want(t, "acyclic ones, at least", max(acyclic, 300), acyclic)
}
