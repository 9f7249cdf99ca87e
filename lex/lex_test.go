package lex

import (
	"math"
	"slices"
	"strconv"
	"strings"
	"testing"
	"unsafe"

	"switchyard/api"
)

func want[T comparable](t *testing.T, what string, got, wanted T) {
	t.Helper()
	if got != wanted {
		t.Errorf("%s: got %#v, want %#v", what, got, wanted)
	}
}

func nameOf(s string, at int) api.Token { return api.Token{Kind: api.TokName, Text: s, At: at} }
func textOf(s string, at int) api.Token { return api.Token{Kind: api.TokText, Text: s, At: at} }
func symOf(s string, at int) api.Token  { return api.Token{Kind: api.TokSym, Text: s, At: at} }
func signOf(s string, at int) api.Token { return api.Token{Kind: api.TokSign, Text: s, At: at} }
func endOf(at int) api.Token            { return api.Token{Kind: api.TokEnd, At: at} }

func intOf(s string, n int64, at int) api.Token {
	return api.Token{Kind: api.TokInt, Text: s, Num: n, At: at}
}

func nameOfLength(n int) string { return strings.Repeat("n", n) }

// operators are all there are.
func operators() []string {
	return strings.Fields("-> .. == != <= >= && || { } ( ) [ ] ; : , . = < > + - * / % !")
}

// scans checks that a source has these tokens, and the end behind them.
func scans(t *testing.T, s string, wanted ...api.Token) {
	t.Helper()
	got, at, bad := Scan(s)
	quoted := strconv.Quote(s)
	want(t, "error of "+quoted, bad, api.OK)
	want(t, "offset of "+quoted, at, 0)
	if !slices.Equal(got, append(wanted, endOf(len(s)))) {
		t.Errorf("tokens of %q: got %#v, want %#v", s, got, wanted)
	}
}

// fails checks that a source has no tokens, but an error at an offset.
func fails(t *testing.T, s string, at int, bad api.Errno) {
	t.Helper()
	got, gotAt, gotBad := Scan(s)
	quoted := strconv.Quote(s)
	want(t, "error of "+quoted, gotBad, bad)
	want(t, "offset of "+quoted, gotAt, at)
	want(t, "tokens of "+quoted, len(got), 0)
}

func TestNothing(t *testing.T) {
	for _, s := range []string{
		"", " ", "\t", "\n", "\r", " \t\n\r \r\n\t",
		"//", "///", "// a", "//\n", "//\n//", " // a // b\n\t// \"\n", "// \x00\xff#'01\"", "//\r\n",
		"// a\r b", "//\t a", "//\n\n\n", "////\n////",
	} {
		scans(t, s)
	}
}

func TestWhiteSpace(t *testing.T) {
	for _, blank := range []string{" ", "\t", "\n", "\r", "\r\n", "//\n", "// x \"' # 01\n", " //\n //\r\x0b\n ", "//a\r//b\n"} {
		scans(t, "a"+blank+"b", nameOf("a", 0), nameOf("b", 1+len(blank)))
		scans(t, blank+"a"+blank, nameOf("a", len(blank)))
		scans(t, blank+"0"+blank+"1"+blank, intOf("0", 0, len(blank)), intOf("1", 1, 1+2*len(blank)))
		scans(t, "<"+blank+"=", signOf("<", 0), signOf("=", 1+len(blank)))
		fails(t, "'"+blank+"a", 0, api.ErrToken)
		fails(t, "a"+blank+"#", 1+len(blank), api.ErrToken)
	}
	// A comment ends at a byte 10 alone, and what is behind it counts again.
	scans(t, "a//b\rc", nameOf("a", 0))
	scans(t, "a//b\nc//d", nameOf("a", 0), nameOf("c", 5))
	scans(t, "a / / b", nameOf("a", 0), signOf("/", 2), signOf("/", 4), nameOf("b", 6))
	scans(t, "a///b\n/c", nameOf("a", 0), signOf("/", 6), nameOf("c", 7))
	scans(t, "1//2", intOf("1", 1, 0))
	scans(t, "*//*", signOf("*", 0))
	scans(t, "/", signOf("/", 0))
	scans(t, "/\n/", signOf("/", 0), signOf("/", 2))
	// In a quoted string there are none.
	scans(t, `"a // b" c`, textOf("a // b", 0), nameOf("c", 9))
}

// TestBytes: what each byte is alone, and behind white space.
func TestBytes(t *testing.T) {
	const letters = "ABCDEFGHIJKLMNOPQRSTUVWXYZabcdefghijklmnopqrstuvwxyz"
	for b := range 256 {
		s := string([]byte{byte(b)})
		switch {
		case strings.Contains(letters, s):
			scans(t, s, nameOf(s, 0))
		case strings.Contains("0123456789", s):
			scans(t, s, intOf(s, int64(b-'0'), 0))
		case slices.Contains(operators(), s):
			scans(t, s, signOf(s, 0))
		case strings.Contains(" \t\n\r", s):
			scans(t, s)
		default:
			fails(t, s, 0, api.ErrToken)
			fails(t, " \n"+s+" a", 2, api.ErrToken)
			fails(t, "=="+s, 2, api.ErrToken)
		}
	}
}

func TestNames(t *testing.T) {
	for _, s := range []string{"a", "Z", "a_1", "A_", "true", "len", "msg", "none", "zZ9_0", nameOfLength(23), nameOfLength(24)} {
		scans(t, s, nameOf(s, 0))
		scans(t, "7"+s, intOf("7", 7, 0), nameOf(s, 1))
		scans(t, "0"+s, intOf("0", 0, 0), nameOf(s, 1))
		scans(t, s+"."+s+"-"+s, nameOf(s, 0), signOf(".", len(s)), nameOf(s, 1+len(s)), signOf("-", 1+2*len(s)), nameOf(s, 2+2*len(s)))
		scans(t, "'"+s, symOf(s, 0))
		scans(t, " '"+s+"'"+s, symOf(s, 1), symOf(s, 2+len(s)))
		scans(t, s+"'"+s+`"`+s+`"`, nameOf(s, 0), symOf(s, len(s)), textOf(s, 1+2*len(s)))
	}
	for _, s := range []string{nameOfLength(25), "a" + strings.Repeat("_", 24), "a" + strings.Repeat("9", 24), nameOfLength(7990)} {
		fails(t, s, 0, api.ErrToken)
		fails(t, "a "+s+" b", 2, api.ErrToken)
		fails(t, "12"+s, 2, api.ErrToken)
		fails(t, "0"+s, 1, api.ErrToken)
		fails(t, "'"+s, 0, api.ErrToken)
		fails(t, "; '"+s, 2, api.ErrToken)
	}
	fails(t, "_", 0, api.ErrToken)
	fails(t, "_a", 0, api.ErrToken)
	fails(t, "1_a", 1, api.ErrToken)
	fails(t, "a _", 2, api.ErrToken)
	fails(t, "ä", 0, api.ErrToken)
	fails(t, "aä", 1, api.ErrToken)
	fails(t, "ab\xff", 2, api.ErrToken)
	fails(t, "ab\u212a", 2, api.ErrToken)
	fails(t, "ab\u0661", 2, api.ErrToken)
	fails(t, "ab\u00a0c", 2, api.ErrToken)
}

func TestSymbols(t *testing.T) {
	for _, s := range []string{"'", "''", "''a", "'1", "'1a", "'0", "'_a", "' a", "'\ta", "'\"a\"", "'ä", "'\xff", "'\x00", "'-", "'//\na"} {
		fails(t, s, 0, api.ErrToken)
		fails(t, "a("+s, 2, api.ErrToken)
	}
	scans(t, "'a'b", symOf("a", 0), symOf("b", 2))
	fails(t, "'a'", 2, api.ErrToken)
	fails(t, "'aä", 2, api.ErrToken)
}

func TestDigits(t *testing.T) {
	for s, n := range map[string]int64{
		"0":                   0,
		"1":                   1,
		"9":                   9,
		"10":                  10,
		"1234567890":          1234567890,
		"2147483648":          1 << 31,
		"9223372036854775806": math.MaxInt64 - 1,
		"9223372036854775807": math.MaxInt64,
	} {
		scans(t, s, intOf(s, n, 0))
		scans(t, "-"+s, signOf("-", 0), intOf(s, n, 1))
		scans(t, s+".."+s, intOf(s, n, 0), signOf("..", len(s)), intOf(s, n, 2+len(s)))
		scans(t, s+"."+s, intOf(s, n, 0), signOf(".", len(s)), intOf(s, n, 1+len(s)))
		scans(t, s+" "+s, intOf(s, n, 0), intOf(s, n, 1+len(s)))
		scans(t, s+"e5", intOf(s, n, 0), nameOf("e5", len(s)))
		scans(t, s+`"1"`, intOf(s, n, 0), textOf("1", len(s)))
		fails(t, s+"_000", len(s), api.ErrToken)
	}
	for _, s := range []string{
		"00", "01", "007", "000", "0123456789", "00a", "01.5",
		"9223372036854775808", "9223372036854775810", "10000000000000000000", "18446744073709551615", "18446744073709551616", "18446744073709551617",
		strings.Repeat("9", 100), strings.Repeat("1", 8000-4), strings.Repeat("0", 8000-4), "09223372036854775807",
	} {
		fails(t, s, 0, api.ErrToken)
		fails(t, "(+ "+s, 3, api.ErrToken)
	}
	scans(t, "0x1f", intOf("0", 0, 0), nameOf("x1f", 1))
	scans(t, "0b1", intOf("0", 0, 0), nameOf("b1", 1))
	scans(t, "0 0", intOf("0", 0, 0), intOf("0", 0, 2))
}

func TestTexts(t *testing.T) {
	for source, text := range map[string]string{
		`""`:                                   "",
		`" "`:                                  " ",
		`"a"`:                                  "a",
		`"\""`:                                 `"`,
		`"\\"`:                                 `\`,
		`"\\\""`:                               `\"`,
		`"\\x0a"`:                              `\x0a`,
		`"\x00"`:                               "\x00",
		`"\x0a"`:                               "\n",
		`"\x1f"`:                               "\x1f",
		`"\x7f"`:                               "\x7f",
		`"\x80"`:                               "\x80",
		`"\xff"`:                               "\xff",
		`"\xc3\xa4"`:                           "ä",
		`"\xab\xcd\xef"`:                       "\xab\xcd\xef",
		`"a\"b\x0a"`:                           "a\"b\n",
		`"~ !#$%&'()*+,-./"`:                   "~ !#$%&'()*+,-./",
		`"[]^_{|}:;<=>?@"`:                     "[]^_{|}:;<=>?@",
		`"none"`:                               "none",
		`"\x0a0"`:                              "\n0",
		`"\\\\"`:                               `\\`,
		`"\x09\x0d\x0a\x0b "`:                  "\t\r\n\v ",
		`"` + strings.Repeat("a", 63) + `"`:    strings.Repeat("a", 63),
		`"` + strings.Repeat("a", 64) + `"`:    strings.Repeat("a", 64),
		`"` + strings.Repeat(`\"`, 64) + `"`:   strings.Repeat(`"`, 64),
		`"` + strings.Repeat(`\\`, 64) + `"`:   strings.Repeat(`\`, 64),
		`"` + strings.Repeat(`\xff`, 64) + `"`: strings.Repeat("\xff", 64),
	} {
		scans(t, source, textOf(text, 0))
		scans(t, " "+source+"//", textOf(text, 1))
		scans(t, "a"+source+"b", nameOf("a", 0), textOf(text, 1), nameOf("b", 1+len(source)))
		scans(t, source+source, textOf(text, 0), textOf(text, len(source)))
		fails(t, source+`"`, len(source), api.ErrToken)
		fails(t, source[:len(source)-1], 0, api.ErrToken)
		fails(t, "= "+source[:len(source)-1]+"\n;", 2, api.ErrToken)
	}
}

// TestWrongTexts: each of these is no quoted string, though it may end.
func TestWrongTexts(t *testing.T) {
	for _, s := range []string{
		`"`, `"a`, `"\`, `"\"`, `"a\"`, `"\\\"`, `"\x`, `"\x0`, `"\x0a`, `"\x0\"`, `"a b c`, "\"a\n",
		`"\q"`, `"\n"`, `"\t"`, `"\0"`, `"\'"`, `"\a"`, `"\/"`, `"\ "`, `"\u00e4"`, `"\012"`, "\"\\\n\"", "\"\\\xff\"", "\"\\\x00\"",
		`"\x"`, `"\x0"`, `"\x0g"`, `"\xg0"`, `"\x a"`, `"\x+1"`, `"\x-1"`, `"\x_1"`, `"\x1_"`, `"\x0"a"`, `"\xä"`, `"\x\x00"`,
		`"\X0a"`, `"\x0A"`, `"\xFF"`, `"\xfF"`, `"\xFf"`, `"\xC3\xA4"`, `"\x1F"`,
		`"\x20"`, `"\x22"`, `"\x5c"`, `"\x5C"`, `"\x41"`, `"\x61"`, `"\x7e"`, `"\x30"`, `"\x27"`,
		"\"\x00\"", "\"\x1f\"", "\"\n\"", "\"\t\"", "\"\r\"", "\"a\nb\"", "\"\x7f\"", "\"\x80\"", "\"\xff\"", `"ä"`,
		`"` + strings.Repeat("a", 65) + `"`,
		`"` + strings.Repeat(`\"`, 65) + `"`,
		`"` + strings.Repeat(`\xff`, 65) + `"`,
		`"` + strings.Repeat("a", 64) + `\\"`,
		`"` + strings.Repeat("a", 7000) + `"`,
		`"` + strings.Repeat(`\`, 7000),
		`"` + strings.Repeat(`\`, 7001),
		`"` + strings.Repeat(`a`, 7000),
	} {
		fails(t, s, 0, api.ErrToken)
		fails(t, "a\t 1 "+s, 5, api.ErrToken)
		fails(t, s+" a", 0, api.ErrToken)
		fails(t, "\"b\""+s, 3, api.ErrToken)
	}
}

// TestEscapes: of the 256 bytes, those have an escape that are not written as
// they are, and one alone.
func TestEscapes(t *testing.T) {
	const hex = "0123456789abcdef"
	for b := range 256 {
		raw := string([]byte{byte(b)})
		escaped := `"\x` + hex[b/16:b/16+1] + hex[b%16:b%16+1] + `"`
		quoted := `"` + raw + `"`
		slashed := `"\` + raw + `"`
		if b < 32 || b > 126 {
			scans(t, escaped, textOf(raw, 0))
			fails(t, quoted, 0, api.ErrToken)
			fails(t, slashed, 0, api.ErrToken)
			continue
		}
		fails(t, escaped, 0, api.ErrToken)
		switch b {
		case '"':
			scans(t, slashed, textOf(raw, 0))
			fails(t, quoted, 2, api.ErrToken) // a third quote behind two
		case '\\':
			scans(t, slashed, textOf(raw, 0))
			fails(t, quoted, 0, api.ErrToken)
		default:
			scans(t, quoted, textOf(raw, 0))
			fails(t, slashed, 0, api.ErrToken)
		}
	}
}

func TestOperators(t *testing.T) {
	for _, s := range operators() {
		scans(t, s, signOf(s, 0))
		scans(t, "a"+s+"b", nameOf("a", 0), signOf(s, 1), nameOf("b", 1+len(s)))
		scans(t, "0"+s+"1", intOf("0", 0, 0), signOf(s, 1), intOf("1", 1, 1+len(s)))
		scans(t, s+" "+s, signOf(s, 0), signOf(s, 1+len(s)))
		scans(t, s+"'a", signOf(s, 0), symOf("a", len(s)))
		scans(t, s+`""`, signOf(s, 0), textOf("", len(s)))
	}
	for s, at := range map[string]int{"&": 0, "|": 0, "a & b": 2, "a | b": 2, "&&&": 2, "|||": 2, "&|": 0, "|&": 0, "& &": 0, "?": 0, "a^b": 1, "~": 0, "@": 0, "#": 0, "$": 0, "`": 0, "\\": 0, "a\\b": 1, "==$": 2} {
		fails(t, s, at, api.ErrToken)
	}
}

// TestLongest: of glued operators the longest is taken at each position.
func TestLongest(t *testing.T) {
	for glued, parted := range map[string]string{
		"...":       ".. .",
		"....":      ".. ..",
		".....":     ".. .. .",
		"===":       "== =",
		"====":      "== ==",
		"=!=":       "= !=",
		"!==":       "!= =",
		"!!=":       "! !=",
		"<=>":       "<= >",
		"<==":       "<= =",
		"<<=":       "< <=",
		">=>=":      ">= >=",
		"=>":        "= >",
		"=<":        "= <",
		"->":        "->",
		"->>":       "-> >",
		"-->":       "- ->",
		"->-":       "-> -",
		"<->":       "< ->",
		"->=":       "-> =",
		"->=>":      "-> = >",
		"-=":        "- =",
		"&&&&":      "&& &&",
		"||||":      "|| ||",
		"<>":        "< >",
		"!-":        "! -",
		"{}()[];":   "{ } ( ) [ ] ;",
		":,.=":      ": , . =",
		"..=":       ".. =",
		".=.":       ". = .",
		"+-*/%":     "+ - * / %",
		"a..b...c":  "a .. b .. . c",
		"a->-b":     "a -> - b",
		"!=!":       "!= !",
		"1..2":      "1 .. 2",
		"'a->'b":    "'a -> 'b",
		"[[1]]":     "[ [ 1 ] ]",
		"a<-b":      "a < - b",
		"msg.a>=-1": "msg . a >= - 1",
	} {
		l, _, bad := Scan(glued)
		want(t, "error of "+glued, bad, api.OK)
		want(t, "tokens of "+glued, Join(l...), parted+" ")
	}
	for _, a := range operators() {
		for _, b := range operators() {
			l, _, bad := Scan(a + b)
			if a+b == "//" {
				want(t, "a comment", len(l), 1)
				continue
			}
			want(t, "error of "+a+b, bad, api.OK)
			longest := len(a)
			for _, c := range operators() {
				if strings.HasPrefix(a+b, c) {
					longest = max(longest, len(c))
				}
			}
			want(t, "first of "+a+b, l[0].Text, (a + b)[:longest])
		}
	}
}

func TestOffsets(t *testing.T) {
	scans(t, "a->b // c", nameOf("a", 0), signOf("->", 1), nameOf("b", 3))
	scans(t, " ab\n\t'x \"\\x0a\"12..3 ;", nameOf("ab", 1), symOf("x", 5), textOf("\n", 8), intOf("12", 12, 14), signOf("..", 16), intOf("3", 3, 18), signOf(";", 20))
	// The first error is told, and no later one.
	fails(t, "a # b $ 01", 2, api.ErrToken)
	fails(t, "01 #", 0, api.ErrToken)
	fails(t, "a // #\n ' 01", 8, api.ErrToken)
	fails(t, "\"a\" \"b", 4, api.ErrToken)
	fails(t, "0 00", 2, api.ErrToken)
}

func TestLong(t *testing.T) {
	for _, s := range []string{" ", ";", "\n", "(", "/ "} {
		full := strings.Repeat(s, api.MaxSource/len(s))
		want(t, "bytes", len(full), 8000)
		l, at, bad := Scan(full)
		want(t, "8000 bytes", bad, api.OK)
		want(t, "8000 bytes, offset", at, 0)
		want(t, "8000 bytes, end", l[len(l)-1], endOf(8000))
		fails(t, full+" ", 0, api.ErrLong)
		fails(t, full+"#", 0, api.ErrLong)
	}
	scans(t, "//"+strings.Repeat("x", 7998))
	fails(t, "//"+strings.Repeat("x", 7999), 0, api.ErrLong)
	fails(t, strings.Repeat("#", 8000), 0, api.ErrToken)
	fails(t, strings.Repeat("#", 8001), 0, api.ErrLong) // ahead of ErrToken
	fails(t, "#"+strings.Repeat(" ", 8000), 0, api.ErrLong)
	fails(t, strings.Repeat(" ", 7999)+"#", 7999, api.ErrToken)
	fails(t, strings.Repeat("\xff", 1<<20), 0, api.ErrLong)
}

func TestSpell(t *testing.T) {
	for _, c := range []struct {
		token api.Token
		want  string
	}{
		{nameOf("a", 3), `a`},
		{nameOf("", 0), ``},
		{nameOf("not a name", 0), `not a name`},
		{intOf("12", 12, 9), `12`},
		{intOf("", 12, 0), `12`},
		{intOf("7", 12, 0), `12`}, // by its Num alone
		{intOf("x", 0, 0), `0`},
		{intOf("", math.MaxInt64, 0), `9223372036854775807`},
		{intOf("", -5, 0), `-5`},
		{textOf("", 0), `""`},
		{textOf("a\"b\\\n\xff", 0), `"a\"b\\\x0a\xff"`},
		{textOf(strings.Repeat("a", 64), 0), `"` + strings.Repeat("a", 64) + `"`},
		{textOf(strings.Repeat("\n", 65), 0), `"` + strings.Repeat(`\x0a`, 65) + `"`},
		{textOf(strings.Repeat("\"", 5000), 0), `"` + strings.Repeat(`\"`, 5000) + `"`},
		{symOf("a", 0), `'a`},
		{symOf("", 0), `'`},
		{symOf("1 a", 0), `'1 a`},
		{symOf("\xff", 0), "'\xff"},
		{symOf(nameOfLength(100), 0), `'` + nameOfLength(100)},
		{signOf("->", 0), `->`},
		{signOf("no sign", 0), `no sign`},
		{endOf(9), ``},
		{api.Token{Kind: api.TokEnd, Text: "x\"", Num: 5, At: 9}, `x"`},
		{api.Token{Kind: 6, Text: "\x00x", Num: 5}, "\x00x"},
		{api.Token{Kind: -1, Text: "y", Num: 5}, `y`},
		{api.Token{Kind: math.MinInt, Text: "z"}, `z`},
		{api.Token{Kind: api.TokName, Text: "a", Num: 5}, `a`},
		{api.Token{Kind: api.TokText, Text: "a", Num: 5}, `"a"`},
		{api.Token{Kind: api.TokSym, Text: "a", Num: 5}, `'a`},
		{api.Token{Kind: api.TokSign, Text: "<", Num: 5}, `<`},
	} {
		want(t, "Spell", Spell(c.token), c.want)
		want(t, "Join of one", Join(c.token), c.want)
	}
	for _, n := range []int64{0, 1, 10, 99, 1 << 40} {
		want(t, "Spell of digits", Spell(intOf("", n, 0)), strconv.FormatInt(n, 10))
	}
}

func TestJoin(t *testing.T) {
	want(t, "Join of none", Join(), "")
	want(t, "Join of an empty list", Join([]api.Token{}...), "")
	want(t, "Join of two", Join(nameOf("a", 9), nameOf("b", 9)), "a b")
	want(t, "Join of ends", Join(endOf(0), endOf(0), endOf(0)), "  ")
	want(t, "Join of each", Join(textOf(" ", 0), symOf("a", 0), intOf("", 7, 0), signOf(";", 0), nameOf("x", 0), endOf(1), api.Token{Kind: 9, Text: "?"}), `" " 'a 7 ; x  ?`)
	want(t, "Join of what is not valid", Join(textOf(strings.Repeat("\n", 66), 0), symOf("", 0)), `"`+strings.Repeat(`\x0a`, 66)+`" '`)
	l := []api.Token{nameOf("b", 1), nameOf("a", 0), intOf("9", 3, 3)}
	Join(l[:2]...)
	want(t, "what was given", slices.Equal(l, []api.Token{nameOf("b", 1), nameOf("a", 0), intOf("9", 3, 3)}), true)
}

// TestAgain: the sources of the tokens, joined and scanned, are the same tokens.
func TestAgain(t *testing.T) {
	words := append(operators(), "a", "b_2", "true", nameOfLength(24), "0", "1", "12", "9223372036854775807",
		`""`, `"a b"`, `"//"`, `"\"\\\x00\x7f\xff"`, `"`+strings.Repeat(`\xff`, 64)+`"`, "'a", "'b_2", "'"+nameOfLength(24))
	sources := []string{"", " // a", strings.Join(words, ""), strings.Join(words, " "), strings.Join(words, "\t//x\n"), strings.Repeat(";", 4000), strings.Repeat("a+", 2000)}
	for _, a := range words {
		for _, b := range words {
			sources = append(sources, a+b, a+" "+b, b+"\n//\n"+a+a)
		}
	}
	scanned := 0
	for _, s := range sources {
		l, _, bad := Scan(s)
		if bad != api.OK {
			continue // some glued words are none
		}
		scanned++
		again, at, bad := Scan(Join(l...))
		want(t, "error of "+s+", joined", bad, api.OK)
		want(t, "offset of "+s+", joined", at, 0)
		want(t, "tokens of "+s+", joined", slices.EqualFunc(l, again, equalButAt), true)
		want(t, "text of "+s+", joined again", Join(again...), Join(l...))
	}
	want(t, "most could be scanned", scanned > 3*len(sources)/4, true)
}

func equalButAt(a, b api.Token) bool {
	a.At = b.At
	return a == b
}

// TestTokensAreNew: nothing of them lies in the source or in other tokens.
func TestTokensAreNew(t *testing.T) {
	source := `abcdef 123456 'ghijkl "mnopqr" -> <=`
	l, _, _ := Scan(source)
	other, _, _ := Scan(source)
	want(t, "Join", Join(l...), source+" ")
	want(t, "Join of the others", Join(other...), source+" ")
	for i, token := range l[:min(len(l), 6)] {
		at := unsafe.StringData(token.Text)
		for j := range source {
			want(t, "the source's bytes", at == unsafe.StringData(source[j:]), false)
		}
		want(t, "another token's bytes", at == unsafe.StringData(other[i].Text), false)
		want(t, "a spelling's bytes", at == unsafe.StringData(Spell(token)), false)
	}
	clear(l[:cap(l)])
	want(t, "the others, behind it", Join(other...), source+" ")
}
