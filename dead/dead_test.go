package dead

import (
	"math"
	"reflect"
	"testing"

	"switchyard/api"
)

func want[T comparable](t *testing.T, what string, got, wanted T) {
	t.Helper()
	if got != wanted {
		t.Errorf("%s: got %#v, want %#v", what, got, wanted)
	}
}

// same checks that two things are equal. A nil slice is an empty one.
func same(t *testing.T, what string, got, wanted any) {
	t.Helper()
	if !equal(reflect.ValueOf(got), reflect.ValueOf(wanted)) {
		t.Errorf("%s:\n got %+v\nwant %+v", what, got, wanted)
	}
}

func equal(a, b reflect.Value) bool {
	if a.Type() != b.Type() {
		return false
	}
	switch a.Kind() {
	case reflect.Struct:
		for i := range a.NumField() {
			if !equal(a.Field(i), b.Field(i)) {
				return false
			}
		}
		return true
	case reflect.Slice:
		if a.Len() != b.Len() {
			return false
		}
		for i := range a.Len() {
			if !equal(a.Index(i), b.Index(i)) {
				return false
			}
		}
		return true
	}
	return a.Interface() == b.Interface()
}

func num(n int64) api.Value          { return api.Value{Kind: api.Int, Num: n} }
func text(s string) api.Value        { return api.Value{Kind: api.Text, Text: s} }
func sym(s string) api.Value         { return api.Value{Kind: api.Sym, Text: s} }
func list(l ...int64) api.Value      { return api.Value{Kind: api.List, List: l} }
func row(l ...api.Value) []api.Value { return l }

// messages are of all sorts, among them some that no channel would carry.
func messages() []api.Mail {
	return []api.Mail{
		{ID: 1, Channel: "ask", Key: row(num(7)), Fields: row(text("t"), list(1, 2, 3))},
		{},
		{ID: 2, Channel: "told"},
		{ID: -3, Key: row(sym("red"), list(), num(math.MinInt64))},
		{ID: math.MaxInt64, Channel: "ask", Fields: row(list(), list(0))},
		{ID: math.MinInt64, Channel: "a b\x00\xff", Key: row(api.Value{Kind: 99, Num: 3, Text: "x", List: []int64{4}}), Fields: row(api.Value{})},
	}
}

// words are all that there are, by their reasons.
func words() map[int]string {
	return map[int]string{api.NoMatch: "no match", api.TooFew: "too few", api.TooMany: "too many", api.Over: "over", api.Buried: "buried"}
}

// numbers are those that a letter may have.
var numbers = []int64{math.MinInt64, math.MinInt64 + 1, -2, -1, 0, 1, 2, 1 << 32, math.MaxInt64 - 1, math.MaxInt64}

// notReasons are numbers without a word.
var notReasons = []int{math.MinInt, math.MinInt + 1, -5, -1, 0, 6, 7, 257, 1<<32 + 1, math.MaxInt - 1, math.MaxInt}

// letters are those of these numbers, with messages and reasons of all sorts.
func letters(l ...int64) []api.Dead {
	var out []api.Dead
	sorts := messages()
	for i, n := range l {
		out = append(out, api.Dead{N: n, Mail: sorts[i%len(sorts)], Reason: api.NoMatch + i%5})
	}
	return out
}

// puts checks what a Put answers, where it is OK.
func puts(t *testing.T, what string, l []api.Dead, x api.Dead, most int) []api.Dead {
	t.Helper()
	got, bad := Put(l, x.N, x.Mail, x.Reason, most)
	want(t, what, bad, api.OK)
	same(t, what, got, append(append([]api.Dead{}, l...), x))
	return got
}

// refuses checks that a Put answers this error.
func refuses(t *testing.T, what string, wanted api.Errno, l []api.Dead, n int64, reason, most int) {
	t.Helper()
	got, bad := Put(l, n, messages()[0], reason, most)
	want(t, what, bad, wanted)
	want(t, what+": no letters", len(got), 0)
}

// drops checks that a Drop leaves these letters.
func drops(t *testing.T, what string, l []api.Dead, n int64, wanted ...api.Dead) {
	t.Helper()
	got, bad := Drop(l, n)
	want(t, what, bad, api.OK)
	same(t, what, got, wanted)
}

// lacks checks that no letter has a number.
func lacks(t *testing.T, what string, l []api.Dead, n int64) {
	t.Helper()
	x, found := Find(l, n)
	want(t, what+": Find", found, false)
	same(t, what+": Find", x, api.Dead{})
	rest, bad := Drop(l, n)
	want(t, what+": Drop", bad, api.ErrNone)
	want(t, what+": Drop: no letters", len(rest), 0)
}

// finds checks that this letter is the one of its number.
func finds(t *testing.T, what string, l []api.Dead, wanted api.Dead) {
	t.Helper()
	x, found := Find(l, wanted.N)
	want(t, what+": Find", found, true)
	same(t, what+": Find", x, wanted)
}

// TestExample: P19.1, that of the chapter.
func TestExample(t *testing.T) {
	refuses(t, "Put", api.ErrQuota, nil, 1, api.NoMatch, 0)
	refuses(t, "Put", api.ErrQuota, []api.Dead{}, 1, api.NoMatch, 0)
}

// TestWord: P19.1, each reason has its word, and no other number has any.
func TestWord(t *testing.T) {
	for reason, word := range words() {
		want(t, "Word", Word(reason), word)
	}
	want(t, "Word of NoMatch", Word(1), "no match")
	want(t, "Word of Buried", Word(5), "buried")
	for _, n := range notReasons {
		want(t, "Word of a number that is none", Word(n), "")
	}
	for n := -1000; n <= 1000; n++ {
		want(t, "Word", Word(n), words()[n])
	}
}

// TestPut: P19.1, where it is OK.
func TestPut(t *testing.T) {
	for reason := range words() {
		for _, n := range numbers {
			for _, m := range messages() {
				x := api.Dead{N: n, Mail: m, Reason: reason}
				puts(t, "Put into an empty list", nil, x, 1)
				puts(t, "Put into an empty list", []api.Dead{}, x, math.MaxInt)
				puts(t, "Put behind one", letters(7), x, 2)
				puts(t, "Put behind several", letters(7, -9, 5), x, 4)
				puts(t, "Put behind several", letters(7, -9, 5), x, math.MaxInt)
			}
		}
	}
	var l []api.Dead
	for i, x := range letters(numbers...) {
		l = puts(t, "Put, again and again", l, x, i+1)
		want(t, "Put: how many", len(l), i+1)
	}
	// Letters that Put itself would not have made are kept as they are.
	odd := append(letters(3, 3), api.Dead{N: 4, Reason: 99}, api.Dead{N: -4})
	puts(t, "Put behind odd ones", odd, api.Dead{N: 5, Reason: api.Over}, 5)
	many := make([]api.Dead, api.MaxBound+5)
	for i := range many {
		many[i].N = int64(i)
	}
	puts(t, "Put behind many", many, api.Dead{N: -1, Reason: api.Over}, len(many)+1)
}

// TestPutFails: P19.1, each error, alone and with those behind it.
func TestPutFails(t *testing.T) {
	l := letters(numbers...)
	room := len(l) + 1
	for _, reason := range notReasons {
		refuses(t, "no reason", api.ErrArg, nil, 1, reason, 1)
		refuses(t, "no reason", api.ErrArg, l, 77, reason, room)
		refuses(t, "no reason, twice", api.ErrArg, l, 1, reason, room)
		refuses(t, "no reason, no room", api.ErrArg, l, 77, reason, len(l))
		refuses(t, "no reason, no room", api.ErrArg, nil, 77, reason, 0)
		refuses(t, "no reason, twice, no room", api.ErrArg, l, 1, reason, len(l))
	}
	for reason := range words() {
		for _, n := range numbers {
			for _, most := range []int{math.MinInt, -1, 0, 1, len(l) - 1, len(l), room, math.MaxInt} {
				refuses(t, "twice", api.ErrTwice, l, n, reason, most)
			}
			for _, most := range []int{math.MinInt, math.MinInt + 1, -1, 0} {
				refuses(t, "no room at all", api.ErrQuota, nil, n, reason, most)
				refuses(t, "no room at all", api.ErrQuota, letters(7), n, reason, most)
			}
			refuses(t, "no room", api.ErrQuota, letters(7), n, reason, 1)
			refuses(t, "no room", api.ErrQuota, letters(7, 8), n, reason, 1)
			refuses(t, "no room", api.ErrQuota, letters(7, 8), n, reason, 2)
			refuses(t, "one of several", api.ErrTwice, append(letters(7, 7), letters(n, n)...), n, reason, 9)
		}
	}
}

// TestFind: P19.1, the first letter of a number.
func TestFind(t *testing.T) {
	l := letters(numbers...)
	for _, x := range l {
		finds(t, "one of many", l, x)
		finds(t, "the only one", []api.Dead{x}, x)
		lacks(t, "no letters", nil, x.N)
		lacks(t, "no letters", []api.Dead{}, x.N)
		lacks(t, "other letters", letters(7, 8, 9), x.N)
	}
	l = letters(1, 2, 3, 2, 1, 2)
	for i := range 3 {
		finds(t, "the first of several", l, l[i])
	}
	for _, n := range []int64{0, 4, -1, -2, math.MinInt64, math.MaxInt64, 1<<32 + 1} {
		lacks(t, "none", l, n)
	}
}

// TestDrop: P19.1, all letters of a number go, wherever they are.
func TestDrop(t *testing.T) {
	l := letters(1, 2, 3, 4)
	drops(t, "at the beginning", l, 1, l[1], l[2], l[3])
	drops(t, "in the midst", l, 2, l[0], l[2], l[3])
	drops(t, "in the midst", l, 3, l[0], l[1], l[3])
	drops(t, "at the end", l, 4, l[0], l[1], l[2])
	for _, n := range numbers {
		drops(t, "the only one", letters(n), n)
		drops(t, "one after the other", letters(n, n, n), n)
	}
	l = letters(1, 2, 1, 1, 3, 2, 1)
	drops(t, "several", l, 1, l[1], l[4], l[5])
	drops(t, "several", l, 2, l[0], l[2], l[3], l[4], l[6])
	drops(t, "one among several", l, 3, l[0], l[1], l[2], l[3], l[5], l[6])
	lacks(t, "none", l, 4)
	odd := []api.Dead{{N: 1, Reason: 99}, {N: 2}, {N: 1, Reason: -1}}
	drops(t, "letters without words", odd, 1, odd[1])
}

// TestCount: P19.1, the letters with a reason, whether it has a word or not.
func TestCount(t *testing.T) {
	var l []api.Dead
	for reason, n := range []int{3, 2, 0, 4, 1, 2, 5} {
		for i := range n {
			l = append(l, api.Dead{N: int64(i), Reason: reason})
		}
	}
	for reason, n := range []int{3, 2, 0, 4, 1, 2, 5} {
		want(t, "Count", Count(l, reason), n)
		want(t, "Count in no letters", Count(nil, reason), 0)
		want(t, "Count in no letters", Count([]api.Dead{}, reason), 0)
	}
	for _, n := range []int{math.MinInt, -1, 7, math.MaxInt} {
		want(t, "Count of what none has", Count(l, n), 0)
		want(t, "Count of what one has", Count(append(l, api.Dead{Reason: n}), n), 1)
	}
}

// TestPutBack: P19.2, a letter that was put is found, and dropping it gives
// what was there before.
func TestPutBack(t *testing.T) {
	for n := range 7 {
		l := letters(10, 11, 12, 13, 14, 15, 16)[:n]
		for _, m := range messages() {
			for _, number := range numbers {
				x := api.Dead{N: number, Mail: m, Reason: api.TooMany}
				before := Count(l, api.TooMany)
				more := puts(t, "Put", l, x, n+1)
				finds(t, "Put", more, x)
				want(t, "Count", Count(more, api.TooMany), before+1)
				drops(t, "Put and Drop", more, number, l...)
				lacks(t, "Put and Drop", l, number)
				refuses(t, "Put again", api.ErrTwice, more, number, api.Over, n+9)
			}
		}
	}
}

// dice are numbers that look thrown, and are the same in each run.
type dice uint64

func (d *dice) below(n int) int {
	*d = *d*6364136223846793005 + 1442695040888963407
	return int(uint64(*d) >> 33 % uint64(n))
}

// reference is the error that the chapter gives for a Put.
func reference(l []api.Dead, n int64, reason, most int) api.Errno {
	twice := false
	for _, x := range l {
		twice = twice || x.N == n
	}
	switch {
	case words()[reason] == "":
		return api.ErrArg
	case twice:
		return api.ErrTwice
	case most <= len(l):
		return api.ErrQuota
	}
	return api.OK
}

// TestRandom: P19.1 and P19.2, letters that come and go by chance, held
// against the chapter's words.
func TestRandom(t *testing.T) {
	d := dice(1)
	sorts := messages()
	for range 200 {
		var l []api.Dead
		for range 80 {
			n, reason, most := int64(d.below(9)-4), d.below(8)-1, d.below(10)-1
			x := api.Dead{N: n, Mail: sorts[d.below(len(sorts))], Reason: reason}
			if bad := reference(l, n, reason, most); bad == api.OK {
				l = puts(t, "by chance", l, x, most)
			} else {
				refuses(t, "by chance", bad, l, n, reason, most)
			}
			n = int64(d.below(9) - 4)
			var rest []api.Dead
			for _, x := range l {
				if x.N != n {
					rest = append(rest, x)
				} else {
					finds(t, "by chance", l, x)
				}
			}
			if len(rest) == len(l) {
				lacks(t, "by chance", l, n)
				continue
			}
			drops(t, "by chance", l, n, rest...)
			if d.below(2) == 0 {
				l, _ = Drop(l, n)
			}
		}
	}
}
