package value

import (
	"math"
	"slices"
	"strings"
	"testing"

	"switchyard/api"
)

func TestPrint(t *testing.T) {
	for _, c := range []struct {
		v    api.Value
		want string
	}{
		{api.Value{}, `none`},
		{intOf(0), `0`},
		{intOf(7), `7`},
		{intOf(-7), `-7`},
		{intOf(100), `100`},
		{intOf(math.MaxInt64), `9223372036854775807`},
		{intOf(math.MinInt64), `-9223372036854775808`},
		{boolOf(0), `false`},
		{boolOf(1), `true`},
		{textOf(""), `""`},
		{textOf("a"), `"a"`},
		{textOf("a b_1'[,]"), `"a b_1'[,]"`},
		{textOf("a\"b\n"), `"a\"b\x0a"`},
		{textOf("\x00"), `"\x00"`},
		{textOf("\x1f"), `"\x1f"`},
		{textOf(" "), `" "`},
		{textOf("!"), `"!"`},
		{textOf("\""), `"\""`},
		{textOf("\\"), `"\\"`},
		{textOf("\\\""), `"\\\""`},
		{textOf("\\x0a"), `"\\x0a"`},
		{textOf("'"), `"'"`},
		{textOf("~"), `"~"`},
		{textOf("\x7f"), `"\x7f"`},
		{textOf("\x80"), `"\x80"`},
		{textOf("\xff"), `"\xff"`},
		{textOf("ä"), `"\xc3\xa4"`},
		{textOf("\ufffd"), `"\xef\xbf\xbd"`},
		{textOf("\t\n\r"), `"\x09\x0a\x0d"`},
		{textOf("\xab\xcd\xef"), `"\xab\xcd\xef"`},
		{textOfLength(api.MaxText), `"` + strings.Repeat(`\xff`, 64) + `"`},
		{symOf("a"), `'a`},
		{symOf("red_1"), `'red_1`},
		{symOf("none"), `'none`},
		{symOf(nameOfLength(24)), `'` + nameOfLength(24)},
		{listOf(), `[]`},
		{listOf(1), `[1]`},
		{listOf(2, -3), `[2, -3]`},
		{listOf(0, 0, 0), `[0, 0, 0]`},
		{listOf(math.MinInt64, math.MaxInt64), `[-9223372036854775808, 9223372036854775807]`},
		{listOfLength(16), `[` + strings.Repeat(`0, `, 15) + `0]`},
	} {
		want(t, "Print", Print(c.v), c.want)
		want(t, "Key of one", Key(c.v), c.want)
	}
}

// TestPrintByBytes: which bytes are written as they are.
func TestPrintByBytes(t *testing.T) {
	const hex = "0123456789abcdef"
	for b := range 256 {
		s := string([]byte{byte(b)})
		wanted := s
		if b == '"' || b == '\\' {
			wanted = `\` + s
		} else if b < ' ' || b > '~' {
			wanted = `\x` + hex[b/16:b/16+1] + hex[b%16:b%16+1]
		}
		want(t, "Print of a byte", Print(textOf(s)), `"`+wanted+`"`)
		want(t, "Print of three", Print(textOf("a"+s+"0")), `"a`+wanted+`0"`)
	}
}

// TestPrintOfWhatIsNotValid: there is an answer to all.
func TestPrintOfWhatIsNotValid(t *testing.T) {
	long := strings.Repeat("\n", 1000)
	want(t, "a long Text", Print(textOf(long)), `"`+strings.Repeat(`\x0a`, 1000)+`"`)
	for _, v := range []api.Value{
		boolOf(2), symOf(""), symOf("\xff"), listOfLength(1000), kindAlone(-1), kindAlone(6),
		{Kind: math.MaxInt, Num: 1, Text: "a", List: []int64{1}},
		{Kind: math.MinInt, Num: -1, Text: "\"", List: []int64{1}},
	} {
		want(t, "one line", strings.Count(Print(v)+Key(v, v), "\n"), 0)
	}
}

func TestKey(t *testing.T) {
	for _, c := range []struct {
		l    []api.Value
		want string
	}{
		{nil, ``},
		{[]api.Value{}, ``},
		{[]api.Value{{}}, `none`},
		{[]api.Value{{}, {}}, `none,none`},
		{[]api.Value{intOf(1), listOf(2, 3)}, `1,[2, 3]`},
		{[]api.Value{intOf(1), symOf("a"), {}}, `1,'a,none`},
		{[]api.Value{textOf("a,b")}, `"a,b"`},
		{[]api.Value{textOf("a"), textOf("b")}, `"a","b"`},
		{[]api.Value{textOf(`a","b`)}, `"a\",\"b"`},
		{[]api.Value{textOf(""), textOf("")}, `"",""`},
		{[]api.Value{textOf(`","`)}, `"\",\""`},
		{[]api.Value{boolOf(1), boolOf(0), intOf(-1), listOf()}, `true,false,-1,[]`},
		{[]api.Value{symOf("true"), textOf("true"), boolOf(1)}, `'true,"true",true`},
	} {
		want(t, "Key", Key(c.l...), c.want)
	}
}

// TestKeysTell: two lists that differ have different keys, for all lists of at
// most two values of which the texts look like parts of a key.
func TestKeysTell(t *testing.T) {
	all := append(ascending(),
		textOf(","), textOf(`"`), textOf(`\`), textOf(`","`), textOf(`\",\"`), textOf(`\x0a`), textOf(`x0a`),
		textOf("none"), textOf("1"), textOf("[]"), textOf("[1, 2, 3]"), textOf("true"), textOf("'a"),
		symOf("none"), symOf("true"), symOf("false"), listOf(1, 2), listOf(12), listOf(1, -2), intOf(12))
	lists := [][]api.Value{nil}
	for i, a := range all {
		lists = append(lists, all[i:i+1])
		for _, b := range all {
			lists = append(lists, []api.Value{a, b})
		}
	}
	known := map[string]int{}
	for _, l := range lists {
		key := Key(l...)
		if _, twice := known[key]; twice {
			t.Errorf("the key %s of two lists", key)
		}
		known[key]++
	}
	want(t, "keys", len(known), len(lists))
}

// TestNothingIsChanged: what is given stays as it is, and what is spare too.
func TestNothingIsChanged(t *testing.T) {
	numbers := []int64{3, 1, 2, 9}
	given := []api.Value{listOf(numbers[:3]...), textOf("b"), textOf("a"), intOf(1)}
	Key(given[:2]...)
	Print(given[0])
	Right(given[0])
	Order(given[0], given[0])
	Same(given[0], given[0])
	Twin(given[:2]...)
	want(t, "the numbers", slices.Equal(numbers, []int64{3, 1, 2, 9}), true)
	want(t, "the values", Key(given...), `[3, 1, 2],"b","a",1`)
}
