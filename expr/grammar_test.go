package expr

import (
	"slices"
	"strings"
	"testing"

	"switchyard/api"
)

// The grammar once more, as rules with what may stand in the place of each: a
// rule is told by a capital letter, and X' is more of X.
func rules() map[string][]string {
	return map[string][]string{
		"O":  {"A O'"},
		"O'": {"", "|| A O'"},
		"A":  {"C A'"},
		"A'": {"", "&& C A'"},
		"C":  {"S", "S == S", "S >= S"},
		"S":  {"P S'"},
		"S'": {"", "+ P S'", "- P S'"},
		"P":  {"U P'"},
		"P'": {"", "* U P'"},
		"U":  {"! U", "- U", "M"},
		"M":  {"1", "x", "msg . N", "len ( O )", "at ( O , O )", "[ ]", "[ O L' ]", "( O )"},
		"L'": {"", ", O L'"},
		"N":  {"x", "len", "at", "msg"},
	}
}

// words are what the tokens of the test are made of.
func words() []string {
	return strings.Fields("|| && == >= + - * ! 1 x msg . len at ( ) [ ] ,")
}

// state is the ways in which a row of words may go on, sorted, a line each:
// the rules and words of one way, of which the first one is a word.
type state string

func (s state) ways() []string {
	return strings.Split(string(s), "\n")
}

// over reports whether nothing has to follow.
func (s state) over() bool {
	return slices.Contains(s.ways(), "END")
}

// grammar finds the states, each once.
type grammar struct {
	rules map[string][]string
	known map[state]map[string]state
}

// state returns the state of ways that may begin with rules.
func (g grammar) state(ways []string) state {
	var out []string
	for len(ways) > 0 {
		way := ways[0]
		ways = ways[1:]
		first, rest, _ := strings.Cut(way, " ")
		bodies, isRule := g.rules[first]
		if !isRule {
			out = append(out, way)
		}
		for _, body := range bodies {
			ways = append(ways, strings.TrimSpace(body+" "+rest))
		}
	}
	slices.Sort(out)
	return state(strings.Join(slices.Compact(out), "\n"))
}

// behind returns the state behind a word, and whether the word may follow.
func (g grammar) behind(s state, word string) (state, bool) {
	if g.known[s] == nil {
		rests := map[string][]string{}
		for _, way := range s.ways() {
			first, rest, _ := strings.Cut(way, " ")
			rests[first] = append(rests[first], rest)
		}
		g.known[s] = map[string]state{}
		for first, ways := range rests {
			g.known[s][first] = g.state(ways)
		}
	}
	next, found := g.known[s][word]
	return next, found
}

func tokenOf(word string) api.Token {
	switch {
	case word == "1":
		return api.Token{Kind: api.TokInt, Text: word, Num: 1}
	case 'a' <= word[0] && word[0] <= 'z':
		return api.Token{Kind: api.TokName, Text: word}
	}
	return api.Token{Kind: api.TokSign, Text: word}
}

// TestGrammar holds Parse against the grammar, for all rows of a few words.
func TestGrammar(t *testing.T) {
	g := grammar{rules(), map[state]map[string]state{}}
	checked := 0
	var visit func(begin []api.Token, s state, more int)
	visit = func(begin []api.Token, s state, more int) {
		next, bad := len(begin), api.ErrSyntax
		if s.over() {
			bad = api.OK
		}
		holds := func(behind ...api.Token) {
			l := append(slices.Clone(begin), behind...)
			_, gotNext, gotBad := Parse(l, 0)
			checked++
			if gotNext != next || gotBad != bad {
				t.Fatalf("%v: got %d and %d, want %d and %d", l, gotNext, gotBad, next, bad)
			}
		}
		holds(api.Token{})
		for _, word := range words() {
			behind, found := g.behind(s, word)
			if !found {
				holds(tokenOf(word), api.Token{})
				holds(tokenOf(word), tokenOf("x"), tokenOf(")"), api.Token{})
			} else if more > 0 {
				visit(append(slices.Clip(begin), tokenOf(word)), behind, more-1)
			}
		}
	}
	visit(nil, g.state([]string{"O END"}), 4)
	want(t, "rows checked, at least", max(checked, 50000), checked)
}
