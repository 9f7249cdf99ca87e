package defn

import (
	"math"
	"slices"
	"strconv"
	"strings"
	"testing"

	"switchyard/api"
	"switchyard/expr"
	"switchyard/lex"
)

// grammarText is the chapter's grammar, with words between blanks, and a word
// of its own for the digits of a range.
const grammarText = `
def = { enum | artifact | channel | milestone | role }
names = name { "," name }
range = small ".." small
enum = "enum" name "{" names "}"
artifact = "artifact" name "{" { part ";" } "}"
part = "attr" name name | "key" names | "state" name [ "start" ] [ "final" ] | "in" name range | "out" name range | "move" name ":" name "->" name [ "on" name ] [ "after" digits ] [ "when" expr ] { "set" name "=" expr } { "send" name }
channel = "channel" name ":" name "." name "->" name "." name "by" expr { "," expr } "for" range [ "spawn" ] [ "carry" names ] ";"
milestone = "milestone" name ":" name name "->" name "by" name "for" range [ "when" expr ] ";"
role = "role" name "{" { sight ";" } "}"
sight = "sees" name [ "(" [ names ] ")" ] [ "in" names ] [ "where" expr ] | "may" name [ "." name ]
whole = def end
`

// rule is a part of the grammar: a choice among rows, of which each element is
// a word or a rule, perhaps one that may be missing or stand several times.
type rule struct {
	rows     [][]element
	optional bool
	repeated bool
}

type element struct {
	word string
	rule *rule
}

// rules reads the grammar.
func rules() map[string]*rule {
	out := map[string]*rule{}
	for line := range strings.Lines(strings.TrimSpace(grammarText)) {
		name, body, _ := strings.Cut(strings.TrimSpace(line), " = ")
		words := strings.Fields(body)
		out[name] = ruleOf(&words)
	}
	return out
}

// ruleOf reads a rule up to its end.
func ruleOf(words *[]string) *rule {
	r := &rule{rows: [][]element{nil}}
	for len(*words) > 0 {
		word := (*words)[0]
		*words = (*words)[1:]
		e := element{word: word}
		switch word {
		case "}", "]":
			return r
		case "|":
			r.rows = append(r.rows, nil)
			continue
		case "{", "[":
			e.rule = ruleOf(words)
			e.rule.optional = true
			e.rule.repeated = word == "{"
		}
		last := len(r.rows) - 1
		r.rows[last] = append(r.rows[last], e)
	}
	return r
}

// reader goes all the ways that the grammar has through the tokens, and keeps
// the farthest token that is wrong.
type reader struct {
	rules  map[string]*rule
	tokens []api.Token
	at     int
	bad    api.Errno
}

func (r *reader) wrong(at int, bad api.Errno) []int {
	if at > r.at || at == r.at && bad != api.ErrSyntax {
		r.at, r.bad = at, bad
	}
	return nil
}

// ends returns where a rule that begins at a token may end.
func (r *reader) ends(one *rule, at int) []int {
	var out []int
	if one.optional {
		out = append(out, at)
	}
	begins := []int{at}
	for len(begins) > 0 {
		begin := begins[0]
		begins = begins[1:]
		for _, row := range one.rows {
			for _, end := range r.rowEnds(row, begin) {
				if slices.Contains(out, end) {
					continue
				}
				out = append(out, end)
				if one.repeated {
					begins = append(begins, end)
				}
			}
		}
	}
	return out
}

func (r *reader) rowEnds(row []element, at int) []int {
	if len(row) == 0 {
		return []int{at}
	}
	var out []int
	for _, end := range r.elementEnds(row[0], at) {
		out = append(out, r.rowEnds(row[1:], end)...)
	}
	return out
}

func (r *reader) elementEnds(e element, at int) []int {
	switch {
	case e.rule != nil:
		return r.ends(e.rule, at)
	case e.word == "expr":
		_, next, bad := expr.Parse(r.tokens, at)
		if bad != api.OK {
			return r.wrong(next, bad)
		}
		return []int{next}
	case r.rules[e.word] != nil:
		return r.ends(r.rules[e.word], at)
	case fits(r.tokens[at], e.word):
		return []int{at + 1}
	}
	return r.wrong(at, api.ErrSyntax)
}

// fits reports whether a token is a word of the grammar.
func fits(t api.Token, word string) bool {
	switch word {
	case "end":
		return t.Kind == api.TokEnd
	case "name":
		return t.Kind == api.TokName
	case "digits":
		return t.Kind == api.TokInt
	case "small":
		return t.Kind == api.TokInt && t.Num <= math.MaxInt32
	}
	return (t.Kind == api.TokName || t.Kind == api.TokSign) && strconv.Quote(t.Text) == word
}

// holder holds Parse against the grammar.
type holder struct {
	rules  map[string]*rule
	known  map[string]bool
	passed int
}

func (h *holder) source(t *testing.T, s string) {
	t.Helper()
	if h.known[s] {
		return
	}
	h.known[s] = true
	tokens, at, bad := lex.Scan(s)
	if bad != api.OK {
		wrong(t, s, at, bad)
		return
	}
	r := reader{rules: h.rules, tokens: tokens, at: -1}
	if len(r.ends(h.rules["whole"], 0)) == 0 {
		wrong(t, s, tokens[r.at].At, r.bad)
		return
	}
	h.passed++
	d, at, bad := Parse(s)
	want(t, "error of "+s, bad, api.OK)
	want(t, "offset of "+s, at, 0)
	again(t, d)
}

// again checks that a choreography of Parse is that of its text, if that is
// not too long.
func again(t *testing.T, d api.Def) {
	t.Helper()
	s, bad := Print(d)
	if bad == api.ErrLong {
		return
	}
	want(t, "error of Print", bad, api.OK)
	both(t, d, s)
}

// grammarSources are what the tests change. Together they have each part of
// the grammar, with names like its words.
func grammarSources() []string {
	return []string{
		"",
		"enum e { a } enum enum { enum, start, in }",
		"artifact a { attr id int; attr attr bool; attr c e; key id; key a, key; }",
		"artifact state { state state; state a start; state b final; state start start final; }",
		"artifact in { in in 0..1; out out 1..2147483647; }",
		"artifact move { move a: b -> c; move move: move -> on on on; move m: on -> after after 3; }",
		"artifact m { move m: a -> b on c after 9 when d < 1 set e = [1] set set = set send f send send; }",
		"artifact m { move a: b -> c set d = len(e); move f: g -> h when when send i; move j: k -> l when m || n; }",
		"channel a: b.c -> d.e by f for 0..1; channel by: by.by -> by.by by by, for, at(by, 1) for 1..1 spawn carry for;",
		"channel c: a.b -> d.e by 1, 'x, \"y\" for 2..3 carry carry, spawn; channel c: d.e -> a.b by -x for 0..0 spawn;",
		"milestone m: a b -> c by d for 1..2; milestone by: by by -> by by by for 1..1 when when;",
		"role r { } role r { sees a; sees b(); sees in in in; sees where where where; may a; may b.c; may may.may; }",
		"role role { sees sees(a, sees) in in, where where true; may may; sees a(b) where (c) == d; sees a(b, c) in d; }",
		"enum e { a } artifact a { key k; } channel a: b.c -> d.e by f for 0..1; milestone m: a b -> c by d for 1..2; role r { may a; }",
	}
}

// otherTokens are what stands in the place of tokens.
func otherTokens() []string {
	return strings.Fields(`a enum artifact channel milestone role attr key state start final in out move on after when set send by for spawn carry sees may where int true len msg
		0 7 2147483647 2147483648 9223372036854775807 "enum" "a" "," 'enum 'a
		-> .. == < || { } ( ) [ ] ; : , . = > + - * ! # 01`)
}

// TestEachToken: each token of a source missing, doubled, another in its place
// or ahead of it, and the end there.
func TestEachToken(t *testing.T) {
	h := holder{rules: rules(), known: map[string]bool{}}
	for _, s := range grammarSources() {
		l, _, bad := lex.Scan(s)
		want(t, "error of Scan", bad, api.OK)
		words := make([]string, len(l))
		for i, token := range l {
			words[i] = lex.Spell(token)
		}
		h.source(t, s)
		want(t, "in the grammar: "+s, h.passed > 0, true)
		h.passed = 0
		for i := range words {
			join := func(instead ...string) string {
				return strings.Join(slices.Concat(words[:i], instead, words[i+1:]), " ")
			}
			h.source(t, join())
			h.source(t, join(words[i], words[i]))
			h.source(t, strings.Join(words[:i], " "))
			for _, other := range otherTokens() {
				h.source(t, join(other))
				h.source(t, join(other, words[i]))
				h.source(t, strings.Join(append(slices.Clip(words[:i]), other), " "))
			}
			if i > 0 {
				h.source(t, strings.Join(slices.Concat(words[:i-1], []string{words[i], words[i-1]}, words[i+1:]), " "))
			}
		}
	}
	want(t, "sources, at least", max(len(h.known), 20000), len(h.known))
}

// TestAnyTokens: rows of tokens that the grammar makes by chance, wrong at some
// place or nowhere.
func TestAnyTokens(t *testing.T) {
	h := holder{rules: rules(), known: map[string]bool{}}
	r := new(dice(7))
	passed := 0
	for range 6000 {
		var out strings.Builder
		grow(&out, r, h.rules, h.rules["def"], 2+r.below(3))
		words := strings.Fields(out.String())
		if len(words) > 0 && r.below(2) == 0 {
			others := otherTokens()
			words[r.below(len(words))] = others[r.below(len(others))]
		}
		h.passed = 0
		h.source(t, strings.Join(words, " "))
		passed += h.passed
	}
	want(t, "sources of the grammar, at least", max(passed, 1000), passed)
}

// grow writes what a rule may be.
func grow(out *strings.Builder, r *dice, all map[string]*rule, one *rule, most int) {
	times := 1
	switch {
	case one.repeated:
		times = r.below(most + 1)
	case one.optional:
		times = r.below(2)
	}
	for range times {
		for _, e := range one.rows[r.below(len(one.rows))] {
			switch {
			case e.rule != nil:
				grow(out, r, all, e.rule, most)
			case all[e.word] != nil:
				grow(out, r, all, all[e.word], most)
			default:
				out.WriteString(grown(r, e.word) + " ")
			}
		}
	}
}

// grown is a source of a word of the grammar.
func grown(r *dice, word string) string {
	choices := map[string][]string{
		"name":   strings.Fields("a b int list in by for when where start enum true len"),
		"digits": strings.Fields("0 3 9223372036854775807"),
		"small":  strings.Fields("0 1 2147483647"),
		"expr":   strings.Fields(`a 'x 0 when (a) a+b*(c-1) a>=b !a||b msg.in==[1,-2] at(push([],1),len("x"))`),
	}[word]
	if choices == nil {
		return strings.Trim(word, `"`)
	}
	return choices[r.below(len(choices))]
}

// TestAnyBytes: sources with bytes changed, and of any bytes.
func TestAnyBytes(t *testing.T) {
	h := holder{rules: rules(), known: map[string]bool{}}
	r := new(dice(3))
	sources := append(grammarSources()[1:], example)
	for range 20000 {
		b := []byte(sources[r.below(len(sources))])
		for range 1 + r.below(3) {
			at := r.below(len(b))
			switch r.below(3) {
			case 0:
				b[at] = byte(r.below(256))
			case 1:
				b = slices.Delete(b, at, min(at+1+r.below(4), len(b)))
			case 2:
				b[at] = b[r.below(len(b))]
			}
			b = append(b, ' ')
		}
		h.source(t, string(b))
	}
}
