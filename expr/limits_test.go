package expr

import (
	"slices"
	"strconv"
	"strings"
	"testing"

	"switchyard/api"
)

// opener is what opens a construct: its source up to an operand, the source
// behind it, and the offset of the token that opens.
type opener struct {
	begin, end string
	at         int
	nodes      int
}

func openers() []opener {
	return []opener{
		{"(", ")", 0, 0},
		{"[", "]", 0, 1},
		{"[b,", "]", 0, 2},
		{"len(", ")", 3, 1},
		{"at(", ",b)", 2, 2},
		{"at(b,", ")", 2, 2},
		{"push(", ",b)", 4, 2},
		{"push(b,", ")", 4, 2},
		{"!", "", 0, 1},
		{"-", "", 0, 1},
		{"- ", "", 0, 1},
	}
}

// nested opens l around a source.
func nested(l []opener, s string) string {
	for _, o := range slices.Backward(l) {
		s = o.begin + s + o.end
	}
	return s
}

func begins(l []opener) string {
	s := ""
	for _, o := range l {
		s += o.begin
	}
	return s
}

func TestDeep(t *testing.T) {
	all := openers()
	rows := [][]opener{}
	for i, o := range all {
		rows = append(rows, slices.Repeat([]opener{o}, 21))
		mixed := append(slices.Clone(all[i:]), all[:i]...)
		rows = append(rows, append(mixed, mixed...)[:21])
	}
	for _, row := range rows {
		deepest := row[20]
		for n := range 20 {
			_, _, bad := Read(nested(row[:n+1], "a"))
			want(t, strconv.Itoa(n+1)+" open", bad, api.OK)
		}
		at := len(begins(row[:20])) + deepest.at
		fails(t, nested(row, "a"), at, api.ErrDeep)
		fails(t, begins(row), at, api.ErrDeep)
		for _, o := range all { // each sort as the one too many, and whatever is behind it
			at := len(begins(row[:20])) + o.at
			fails(t, begins(row[:20])+o.begin, at, api.ErrDeep)
			fails(t, begins(row[:20])+o.begin+")", at, api.ErrDeep)
			fails(t, nested(row[:20], nested([]opener{o}, "a")), at, api.ErrDeep)
		}
		fails(t, nested(row[:20], "[]"), len(begins(row[:20])), api.ErrDeep)
		fails(t, nested(row[:20], "len a"), len(begins(row[:20]))+4, api.ErrSyntax)
	}
}

// TestEnded: what has ended is no longer open.
func TestEnded(t *testing.T) {
	for _, o := range openers() {
		full := nested(slices.Repeat([]opener{o}, 20), "a")
		again := full + " + " + full
		if nodes := 2*(20*o.nodes+1) + 1; nodes > api.MaxNodes {
			t.Fatalf("%s: %d nodes", o.begin, nodes)
		}
		_, _, bad := Read(again)
		want(t, again, bad, api.OK)
		for _, s := range []string{"len(" + again + ")", "-(" + again + ")", "[a, " + again + "]"} {
			_, _, bad = Read(s)
			want(t, s, bad, api.ErrDeep)
		}
		_, _, bad = Read(strings.Repeat(nested([]opener{o}, "a")+" * ", 40) + "a")
		want(t, "one behind another: "+o.begin, bad, api.OK)
	}
	// The operand of ! and - is over ahead of an operator that stands between two.
	signs := strings.Repeat("-", 20) + "a"
	for _, b := range binaries() {
		_, _, bad := Read(signs + " " + b.sign + " " + signs)
		want(t, "signs on both sides of "+b.sign, bad, api.OK)
		_, _, bad = Read(signs + " " + b.sign + " -" + signs)
		want(t, "one more sign behind "+b.sign, bad, api.ErrDeep)
	}
	fails(t, "-("+strings.Repeat("!", 18)+"a + "+strings.Repeat("!", 18)+"[a])", 2+18+4+18, api.ErrDeep)
	fails(t, "at("+strings.Repeat("(", 19)+"a"+strings.Repeat(")", 19)+", "+strings.Repeat("(", 20), 3+39+2+19, api.ErrDeep)
}

// TestMany: what produces the node that is one too many, behind 200 nodes.
func TestMany(t *testing.T) {
	full := strings.Repeat("a+", 100)
	for s, at := range map[string]int{
		"a": 0, "1": 0, `"a"`: 0, "'a": 0, "true": 0, "false": 0, "msg.a": 4, "msg . len": 6, "[]": 0, "[a]": 0, "!a": 0, "-a": 0,
		"len(a)": 3, "at (a, b)": 3, "push(a, b)": 4, "(a)": 1, "((1))": 2, "(-a)": 1, "(msg.a)": 5, "([])": 1,
	} {
		fails(t, full+s, 200+at, api.ErrMany)
		fails(t, "("+full+s, 201+at, api.ErrMany)
		fails(t, full+s+" )", 200+at, api.ErrMany)
		fails(t, full+s+" + b", 200+at, api.ErrMany)
	}
	// What produces nothing may stand there.
	for s, at := range map[string]int{"(": 1, "((": 2, "()": 1, "len": 3, "at": 2, "push": 4, "msg": 3, "msg.": 4, "msg . (": 6, "(len)": 4} {
		fails(t, full+s, 200+at, api.ErrSyntax)
	}
	begin := strings.Repeat("a+", 99) + "a"
	for _, b := range binaries() {
		if s := begin + b.sign; b.level <= 4 { // the last of 200 nodes, in the place of a looser one
			fails(t, s+"a", len(s), api.ErrMany)
			fails(t, s+"(!a)", len(s)+1, api.ErrMany)
			fails(t, s, len(s), api.ErrSyntax)
		}
	}
}

// TestAlmostMany: what produces the last node that may be, behind 199 nodes.
func TestAlmostMany(t *testing.T) {
	almost := "-" + strings.Repeat("a+", 99)
	for _, s := range []string{"a", "1", `"a"`, "'a", "true", "false", "msg.a", "[]", "(a)", "([])"} {
		full := almost + s
		e, at, bad := Read(full)
		want(t, "200 nodes, with "+s, bad, api.OK)
		want(t, "offset", at, 0)
		want(t, "nodes, with "+s, size(e), 200)
		for _, b := range binaries() {
			fails(t, full+b.sign+"a", len(full), api.ErrMany)
			fails(t, full+b.sign, len(full), api.ErrMany)
			fails(t, "("+full+b.sign+")", 1+len(full), api.ErrMany)
			fails(t, "("+full+")"+b.sign+"a", 2+len(full), api.ErrMany)
		}
		fails(t, full+" b", len(full)+1, api.ErrSyntax)
		fails(t, full+" (", len(full)+1, api.ErrSyntax)
	}
	for s, at := range map[string]int{"!a": 1, "-(a)": 2, "[a]": 1, "len(a)": 4, "at(a, b)": 3, "push(1, b)": 5, "a * b": 2, "(a == b)": 3, "len(msg.a)": 8, "[[]]": 1, "--a": 1} {
		fails(t, almost+s, len(almost)+at, api.ErrMany)
	}
}

// TestSameToken: several errors at one token.
func TestSameToken(t *testing.T) {
	open := strings.Repeat("(", 20)
	full := open + strings.Repeat("a+", 100)
	for s, at := range map[string]int{"!a": 0, "-a": 0, "[a]": 0, "[]": 0, "len(a)": 3, "at(a, b)": 2, "push(a, b)": 4, "(a)": 0, "(": 0} {
		fails(t, full+s, 220+at, api.ErrDeep)
		fails(t, full[1:]+"(a)", 220, api.ErrMany)
	}
	// An element too many goes ahead of a construct too many, and of a node too many.
	list := open[:19] + "[" + strings.Repeat("1,", 15)
	for _, s := range []string{"(a)", "!a", "-a", "[a]", "[", "("} {
		fails(t, list+s, len(list), api.ErrDeep)
		fails(t, list+"1,"+s, len(list)+2, api.ErrMany)
	}
	for _, s := range []string{"len(a)", "at(a, b)", "push(a, b)"} {
		fails(t, list+s, len(list)+strings.Index(s, "("), api.ErrDeep)
		fails(t, list+"1,"+s, len(list)+2, api.ErrMany)
	}
	list = "[" + full[20:204] + "a" + strings.Repeat(",1", 15) // 201 nodes
	fails(t, list, len(list)-1, api.ErrMany)
	list = "[" + full[20:202] + "a" + strings.Repeat(",1", 15) // 199 nodes
	fails(t, list+",a", len(list)+1, api.ErrMany)
	fails(t, list+",[]", len(list)+1, api.ErrMany)
	fails(t, list+"*a", len(list)+1, api.ErrMany)
}

// TestElementTooMany: behind 16 elements and a comma, at each token that there
// is. Only one with which an element begins is the first token of one too many.
func TestElementTooMany(t *testing.T) {
	list := "[" + strings.Repeat("1, ", 16)
	lists := map[string]string{
		"a list alone":        list,
		"a list in a list":    "[a, " + list,
		"a list with 20 open": strings.Repeat("(", 19) + list,
		"a list of 200 nodes": "[-" + strings.Repeat("a+", 91) + "a" + strings.Repeat(", 1", 15) + ", ",
		"a list of a call's":  "1 + at(" + list,
		"a full list of full": "[" + strings.Repeat("[], ", 15) + list,
	}
	begin := strings.Fields(`a z_9 true false msg len at push 0 7 9223372036854775807 "" "]" "," 'a 'len ( [ ! -`)
	none := strings.Fields("-> .. == != <= >= && || { } ) ] ; : , . = < > + * / %")
	for what, list := range lists {
		for _, behind := range []string{"", " a", " 1", " ]", "]", ")", " ,", " + 1", " (", " (a, b)]", ".a]"} {
			for _, s := range begin {
				fails(t, list+s+behind, len(list), api.ErrMany)
			}
			for _, s := range none {
				fails(t, list+s+" "+behind, len(list), api.ErrSyntax)
			}
		}
		fails(t, list, len(list), api.ErrSyntax)
		l := tokens(t, list)
		at := len(l) - 1
		for _, x := range strange() {
			l := append(l[:at:at], x, api.Token{Kind: api.TokName, Text: "a"}, api.Token{})
			parses(t, what+" and a token that is none", l, 0, api.Expr{}, at, api.ErrSyntax)
		}
	}
	// A comma behind fewer elements, too, has an element behind it.
	for n := range 16 {
		list := "[" + strings.Repeat("1, ", n+1)
		if n < 15 {
			_, _, bad := Read(list + "a]")
			want(t, list+"a]", bad, api.OK)
		}
		for _, s := range none {
			fails(t, list+s, len(list), api.ErrSyntax)
		}
	}
}
