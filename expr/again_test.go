package expr

import (
	"strings"
	"testing"

	"switchyard/api"
	"switchyard/lex"
)

// dice are numbers that look thrown, and are the same in each run.
type dice uint64

func (d *dice) below(n int) int {
	*d = *d*6364136223846793005 + 1442695040888963407
	return int(uint64(*d) >> 33 % uint64(n))
}

// anyTree returns a tree of about so many nodes.
func anyTree(r *dice, nodes int) api.Expr {
	if nodes <= 1 {
		leaves := []api.Expr{num(int64(r.below(1<<30)) << 33), num(3), text("x\"\n"), text(""), sym("at"), attr("a"), attr("b_1"), field("len"), {Op: api.OpBool, Num: 1}, {Op: api.OpBool}, list()}
		return leaves[r.below(len(leaves))]
	}
	switch r.below(8) {
	case 0:
		l := make([]api.Expr, r.below(4))
		for i := range l {
			l[i] = anyTree(r, nodes/4)
		}
		return list(l...)
	case 1:
		return node([]int{api.OpNot, api.OpNeg, api.OpLen}[r.below(3)], anyTree(r, nodes-1))
	}
	for {
		op := api.OpMul + r.below(api.OpOr-api.OpMul+1)
		if operands()[op] == 2 {
			left := r.below(nodes)
			return node(op, anyTree(r, left), anyTree(r, nodes-1-left))
		}
	}
}

// TestAgain: the text of a tree is read as this tree.
func TestAgain(t *testing.T) {
	r := new(dice(8))
	count := 0
	for range 3000 {
		e := anyTree(r, 1+r.below(60))
		s, bad := Print(e)
		if bad != api.OK {
			want(t, "the one error of a tree like these", bad, api.ErrDeep)
			continue
		}
		count++
		reads(t, s, e)
		spaced(t, s)
		needed(t, s, e)
	}
	want(t, "most have a text", count > 2000, true)
}

// spaced checks the spaces of a text: they are around operators between two
// operands, and behind commas.
func spaced(t *testing.T, s string) {
	t.Helper()
	l := tokens(t, s)
	var out strings.Builder
	for i, token := range l {
		sign := token.Kind == api.TokSign
		switch {
		case sign && token.Text == ",":
			out.WriteString(", ")
		case sign && i > 0 && between(l[i-1], token):
			out.WriteString(" " + token.Text + " ")
		default:
			out.WriteString(lex.Spell(token))
		}
	}
	want(t, "spaces", s, out.String())
}

// between reports whether a sign behind this token is an operator between two
// operands.
func between(behind, sign api.Token) bool {
	if strings.Contains("( ) [ ] , . !", sign.Text) {
		return false
	}
	return behind.Kind != api.TokSign || behind.Text == ")" || behind.Text == "]"
}

// needed checks that a text without two of its parens is another tree's, or
// none's.
func needed(t *testing.T, s string, e api.Expr) {
	t.Helper()
	l := tokens(t, s)
	var open []int
	for i, token := range l {
		switch {
		case token.Kind != api.TokSign:
		case token.Text == "(":
			open = append(open, i)
		case token.Text == ")":
			begin := open[len(open)-1]
			open = open[:len(open)-1]
			if begin > 0 && l[begin-1].Kind == api.TokName {
				continue // a function's
			}
			without := s[:l[begin].At] + " " + s[l[begin].At+1:token.At] + " " + s[token.At+1:]
			if got, _, bad := Read(without); bad == api.OK && same(got, e) {
				t.Errorf("%s: the parens at %d are not needed", s, l[begin].At)
			}
		}
	}
}

// TestSources: what can be read has a text, which is read as the same tree.
func TestSources(t *testing.T) {
	r := new(dice(9))
	operand := strings.Fields(`a b 1 "x" 'y true false msg.a [] len(a) [1,-2] at(a,1) push(a,!b) (a||b) (a+b) (a*b) (a<b) ((a)) -a !!a`)
	count := 0
	for range 3000 {
		source := operand[r.below(len(operand))]
		for range r.below(12) {
			source += binaries()[r.below(13)].sign + operand[r.below(len(operand))]
			if r.below(4) == 0 {
				source = []string{"(", "!(", "len(", "-("}[r.below(4)] + source + ")"
			}
		}
		e, _, bad := Read(source)
		if bad != api.OK {
			continue
		}
		count++
		s := printed(t, e)
		reads(t, s, e)
		want(t, "the text again", printed(t, e), s)
		needed(t, s, e)
	}
	want(t, "many can be read", count > 1000, true)
	// However deep a source is, its tree's text is no deeper.
	for _, o := range openers() {
		e, _, bad := Read(nested([]opener{o, o, o, o, o, o, o, o, o, o, o, o, o, o, o, o, o, o, o, o}, "a"))
		want(t, "20 open", bad, api.OK)
		reads(t, printed(t, e), e)
	}
	deep := strings.Repeat("(1 > ", 20) + "a" + strings.Repeat(")", 20)
	e, _, bad := Read(deep)
	want(t, deep, bad, api.OK)
	want(t, deep, printed(t, e), strings.Repeat("(", 19)+"a < 1"+strings.Repeat(") < 1", 19))
}

// TestAnything: any tokens have an answer, at any index.
func TestAnything(t *testing.T) {
	r := new(dice(10))
	pool := append(tokens(t, `|| && == > + - * ! 1 a msg . len at push ( ) [ ] , "x" 'y true ; = (([[`), strange()...)
	for range 20000 {
		l := make([]api.Token, r.below(40))
		for i := range l {
			l[i] = pool[r.below(len(pool))]
		}
		if r.below(4) > 0 {
			l = append(l, api.Token{})
		}
		at := r.below(len(l)+4) - 2
		e, next, bad := Parse(l, at)
		if bad != api.OK {
			want(t, "no tree", same(e, api.Expr{}), true)
			continue
		}
		s := printed(t, e)
		reads(t, s, e)
		want(t, "read on", next > at && next < len(l), true)
		again, againNext, bad := Parse(append(l[at:next:next], api.Token{}), 0)
		want(t, "its own tokens alone", bad == api.OK && againNext == next-at && same(again, e), true)
	}
}
