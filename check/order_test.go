package check

import (
	"math"
	"slices"
	"strconv"
	"strings"
	"testing"

	"switchyard/api"
)

// fault makes a choreography wrong that was valid. Two faults of one spot, or
// of a spot and what lies in it, don't go together.
type fault struct {
	spot string
	bad  api.Errno
	put  func(d *api.Def)
}

func (f fault) apart(other fault) bool {
	return !strings.HasPrefix(f.spot+".", other.spot+".") && !strings.HasPrefix(other.spot+".", f.spot+".")
}

// faults are those of full, in the order in which Check is to find them.
type faults struct {
	t    *testing.T
	list []fault
}

func (l *faults) add(spot string, bad api.Errno, put func(d *api.Def)) {
	l.list = append(l.list, fault{spot, bad, put})
}

// exprs adds the errors of an expression that has to be of one kind.
func (l *faults) exprs(spot, other string, at func(d *api.Def) *api.Expr) {
	for _, c := range []struct {
		source string
		bad    api.Errno
	}{{"none && !n", api.ErrName}, {other, api.ErrKind}} {
		e := tree(l.t, c.source)
		l.add(spot, c.bad, func(d *api.Def) { *at(d) = e })
	}
}

// name adds an error of names that lead nowhere.
func (l *faults) name(spot, other string, bad api.Errno, at func(d *api.Def) *string) {
	l.add(spot, bad, func(d *api.Def) { *at(d) = other })
}

func (l *faults) typ(i int) {
	spot := "type" + strconv.Itoa(i)
	typ := func(d *api.Def) *api.Type { return &d.Types[i] }
	for j, name := range []string{"len", "push"} {
		at := spot + ".attr" + strconv.Itoa(j)
		// Nothing else names these two, but for a By and a By of a group.
		l.name(at+".name", name, api.ErrName, func(d *api.Def) *string { return &typ(d).Attrs[7+j].Name })
		l.name(at+".enum", "none", api.ErrNone, func(d *api.Def) *string { return &typ(d).Attrs[7+j].Enum })
	}
	l.add(spot+".key", api.ErrCount, func(d *api.Def) { typ(d).Key = nil })
	l.name(spot+".key.1", "none", api.ErrNone, func(d *api.Def) *string { return &typ(d).Key[1] })
	l.add(spot+".states", api.ErrState, func(d *api.Def) { typ(d).States[0].Start = false })
	l.add(spot+".states", api.ErrState, func(d *api.Def) { typ(d).States[2].Start = true })
	l.add(spot+".states", api.ErrState, func(d *api.Def) { typ(d).States[0].Final = true })
	for j := range 4 {
		port := func(d *api.Def) *api.Port { return &typ(d).Ports[j] }
		at := spot + ".port" + strconv.Itoa(j)
		l.add(at, api.ErrCount, func(d *api.Def) { port(d).Max = 0 })
		l.add(at, api.ErrCount, func(d *api.Def) { port(d).Max = 1001 })
		l.add(at, api.ErrCount, func(d *api.Def) { port(d).Min = 4 })
	}
	for j := range 3 {
		l.move(spot+".move"+strconv.Itoa(j), func(d *api.Def) *api.Move { return &typ(d).Moves[j] })
	}
}

func (l *faults) move(spot string, move func(d *api.Def) *api.Move) {
	l.name(spot+".from", "none", api.ErrNone, func(d *api.Def) *string { return &move(d).From })
	l.name(spot+".to", "none", api.ErrNone, func(d *api.Def) *string { return &move(d).To })
	l.name(spot+".from", "end", api.ErrState, func(d *api.Def) *string { return &move(d).From })
	l.name(spot+".on", "none", api.ErrNone, func(d *api.Def) *string { return &move(d).On })
	l.name(spot+".on", "o", api.ErrNone, func(d *api.Def) *string { return &move(d).On })
	l.add(spot+".after", api.ErrArg, func(d *api.Def) { move(d).After = api.MaxTime + 1 })
	l.add(spot+".after", api.ErrArg, func(d *api.Def) { move(d).After = math.MaxInt64 })
	l.exprs(spot+".when", "n", func(d *api.Def) *api.Expr { return &move(d).When })
	for k := range 2 {
		at := spot + ".set" + strconv.Itoa(k)
		l.name(at+".attr", []string{"none", "other2"}[k], api.ErrNone, func(d *api.Def) *string { return &move(d).Sets[k].Attr })
		l.name(at+".attr", []string{"k", "l"}[k], api.ErrState, func(d *api.Def) *string { return &move(d).Sets[k].Attr })
		l.exprs(at+".to", "s", func(d *api.Def) *api.Expr { return &move(d).Sets[k].To })
	}
	for k := range 2 {
		at := spot + ".send" + strconv.Itoa(k)
		l.name(at, []string{"none", "i"}[k], api.ErrNone, func(d *api.Def) *string { return &move(d).Sends[k] })
	}
}

// channel adds the errors of the channel at i. Those at 0 and 1 have to carry
// something for the moves on what they bring.
func (l *faults) channel(i int) {
	spot := "channel" + strconv.Itoa(i)
	channel := func(d *api.Def) *api.Channel { return &d.Channels[i] }
	if i > 1 {
		for _, s := range []string{"none", "color"} {
			l.name(spot+".from", s, api.ErrNone, func(d *api.Def) *string { return &channel(d).From })
		}
		l.name(spot+".fromport", "i", api.ErrNone, func(d *api.Def) *string { return &channel(d).FromPort })
		l.name(spot+".to", "none", api.ErrNone, func(d *api.Def) *string { return &channel(d).To })
		l.name(spot+".toport", "none", api.ErrNone, func(d *api.Def) *string { return &channel(d).ToPort })
		l.name(spot+".toport", "o", api.ErrNone, func(d *api.Def) *string { return &channel(d).ToPort })
	}
	l.add(spot+".by", api.ErrKind, func(d *api.Def) { channel(d).By = channel(d).By[:1] })
	l.add(spot+".by", api.ErrKind, func(d *api.Def) { channel(d).By = append(channel(d).By, channel(d).By[0]) })
	for k := range 2 {
		l.exprs(spot+".by."+strconv.Itoa(k), "t", func(d *api.Def) *api.Expr { return &channel(d).By[k] })
	}
	for _, c := range []struct {
		low, high int
		spawn     bool
	}{{2, 1, false}, {0, 0, true}, {1, 1001, true}, {2, 3, true}} {
		l.add(spot+".range", api.ErrCount, func(d *api.Def) { channel(d).Low, channel(d).High, channel(d).Spawn = c.low, c.high, c.spawn })
	}
	if i > 1 {
		l.name(spot+".carry", "none", api.ErrNone, func(d *api.Def) *string { return &channel(d).Carry[0] })
	}
	if i > 2 { // not the first one to its port
		l.name(spot+".carry", "other", api.ErrKind, func(d *api.Def) *string { return &channel(d).Carry[1] })
		l.add(spot+".carry", api.ErrKind, func(d *api.Def) { slices.Reverse(channel(d).Carry) })
		l.add(spot+".carry", api.ErrKind, func(d *api.Def) { channel(d).Carry = channel(d).Carry[:1] })
	}
}

func (l *faults) group(i int) {
	spot := "group" + strconv.Itoa(i)
	group := func(d *api.Def) *api.Group { return &d.Groups[i] }
	l.name(spot+".type", "none", api.ErrNone, func(d *api.Def) *string { return &group(d).Type })
	l.name(spot+".state", "none", api.ErrNone, func(d *api.Def) *string { return &group(d).State })
	l.name(spot+".to", "none", api.ErrNone, func(d *api.Def) *string { return &group(d).To })
	l.name(spot+".state", "end", api.ErrState, func(d *api.Def) *string { return &group(d).State })
	l.name(spot+".by", "none", api.ErrNone, func(d *api.Def) *string { return &group(d).By })
	for _, c := range [][2]int{{0, 1}, {2, 1}, {1, 1001}} {
		l.add(spot+".range", api.ErrCount, func(d *api.Def) { group(d).Low, group(d).High = c[0], c[1] })
	}
	l.exprs(spot+".when", "n", func(d *api.Def) *api.Expr { return &group(d).When })
}

func (l *faults) role(i int) {
	spot := "role" + strconv.Itoa(i)
	role := func(d *api.Def) *api.Role { return &d.Roles[i] }
	for j := range 2 {
		at := spot + ".sight" + strconv.Itoa(j)
		sight := func(d *api.Def) *api.Sight { return &role(d).Sees[j] }
		l.name(at+".type", "none", api.ErrNone, func(d *api.Def) *string { return &sight(d).Type })
		for k := range 2 {
			l.name(at+".attr"+strconv.Itoa(k), "none", api.ErrNone, func(d *api.Def) *string { return &sight(d).Attrs[k] })
			l.name(at+".state"+strconv.Itoa(k), "none", api.ErrNone, func(d *api.Def) *string { return &sight(d).States[k] })
		}
		l.exprs(at+".where", "n", func(d *api.Def) *api.Expr { return &sight(d).Where })
	}
	for j := range 3 {
		at := spot + ".right" + strconv.Itoa(j)
		right := func(d *api.Def) *api.Right { return &role(d).May[j] }
		l.name(at+".type", "none"+strconv.Itoa(j), api.ErrNone, func(d *api.Def) *string { return &right(d).Type })
		l.name(at+".move", "none"+strconv.Itoa(j), api.ErrNone, func(d *api.Def) *string { return &right(d).Move })
		l.name(at+".move", []string{"on", "fin", "on"}[j], api.ErrState, func(d *api.Def) *string { return &right(d).Move })
	}
}

func allFaults(t *testing.T) []fault {
	l := faults{t: t}
	for i := range 2 {
		l.typ(i)
	}
	for i := range 5 {
		l.channel(i)
	}
	for i := range 2 {
		l.group(i)
	}
	for i := range 2 {
		l.role(i)
	}
	return l.list
}

// earlyFaults are those of Print, then of what there is too much of, then of
// names that stand twice: each kind ahead of the next.
func earlyFaults() [][]fault {
	endless := []api.Expr{{Op: api.OpNot}}
	endless[0].Args = endless
	many := func(n int) []string { return strings.Fields(row("x#", " ", n)) }
	return [][]fault{
		{
			{"enums", api.ErrForm, func(d *api.Def) { d.Enums = append(d.Enums, api.Enum{Name: "e"}) }},
			{"enums", api.ErrName, func(d *api.Def) { d.Enums = append(d.Enums, api.Enum{Name: "", Syms: many(1)}) }},
			{"enums", api.ErrLong, func(d *api.Def) { d.Enums = append(d.Enums, api.Enum{Name: "e", Syms: many(2000)}) }},
			{"role1.name", api.ErrName, func(d *api.Def) { d.Roles[1].Name = "1" }},
			{"role1.sight1.type", api.ErrName, func(d *api.Def) { d.Roles[1].Sees[1].Type = "" }},
			{"role1.sight1.where", api.ErrMany, func(d *api.Def) { d.Roles[1].Sees[1].Where = endless[0] }},
			{"role1.sight1.where", api.ErrForm, func(d *api.Def) { d.Roles[1].Sees[1].Where = api.Expr{Op: 99} }},
			{"role1.right2.move", api.ErrName, func(d *api.Def) { d.Roles[1].May[2].Move = "a.b" }},
			{"group1.range", api.ErrForm, func(d *api.Def) { d.Groups[1].Low, d.Groups[1].High = -1, 1 }},
			{"channel4.range", api.ErrForm, func(d *api.Def) { d.Channels[4].High = math.MaxInt }},
			{"type1.port3", api.ErrForm, func(d *api.Def) { d.Types[1].Ports[3].Min = -1 }},
			{"type1.move2.after", api.ErrForm, func(d *api.Def) { d.Types[1].Moves[2].After = -1 }},
			{"type1.move2.set1.to", api.ErrForm, func(d *api.Def) { d.Types[1].Moves[2].Sets[1].To = api.Expr{} }},
			{"type1.attr1.enum", api.ErrForm, func(d *api.Def) { d.Types[1].Attrs[8].Enum = "int" }},
		},
		{
			{"enums", api.ErrMany, func(d *api.Def) { d.Enums = append(d.Enums, api.Enum{Name: "color", Syms: many(17)}) }},
			{"role1.sight1.attr", api.ErrMany, func(d *api.Def) { d.Roles[1].Sees[1].Attrs = many(17) }},
			{"group", api.ErrMany, func(d *api.Def) { d.Groups = slices.Repeat(d.Groups, 9) }},
		},
		{
			{"enums", api.ErrTwice, func(d *api.Def) { d.Enums = append(d.Enums, d.Enums[0]) }},
			{"role1.sight1.attr", api.ErrTwice, func(d *api.Def) { d.Roles[1].Sees[1].Attrs = slices.Repeat([]string{"none"}, 2) }},
			{"role1", api.ErrTwice, func(d *api.Def) { d.Roles[1].May = append(d.Roles[1].May, d.Roles[1].May[0]) }},
			{"role1.name", api.ErrTwice, func(d *api.Def) { d.Roles[1].Name = "r" }},
			{"channel4.name", api.ErrTwice, func(d *api.Def) { d.Channels[4].Name = "d" }},
		},
	}
}

// TestFaults: each fault alone.
func TestFaults(t *testing.T) {
	for _, f := range slices.Concat(slices.Concat(earlyFaults()...), allFaults(t)) {
		d := read(t, full)
		f.put(&d)
		want(t, f.spot, Check(d), f.bad)
		want(t, "acyclic with "+f.spot, Acyclic(d), false)
	}
}

// TestFirst: of two faults the first one counts.
func TestFirst(t *testing.T) {
	l := allFaults(t)
	pairs := 0
	both := func(first, second fault) {
		if first.bad == second.bad || !first.apart(second) {
			return
		}
		pairs++
		d := read(t, full)
		first.put(&d)
		second.put(&d)
		want(t, first.spot+" ahead of "+second.spot, Check(d), first.bad)
	}
	for i, first := range l {
		for _, second := range l[i+1:] {
			both(first, second)
		}
	}
	early := earlyFaults()
	for i, kind := range early {
		for _, first := range kind {
			for _, second := range slices.Concat(slices.Concat(early[i+1:]...), l) {
				both(first, second)
			}
		}
	}
	want(t, "pairs, at least", max(pairs, 20000), pairs)
}
