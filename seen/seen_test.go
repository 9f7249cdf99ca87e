package seen

import (
	"math"
	"slices"
	"testing"

	"switchyard/api"
)

func want[T comparable](t *testing.T, what string, got, wanted T) {
	t.Helper()
	if got != wanted {
		t.Errorf("%s: got %#v, want %#v", what, got, wanted)
	}
}

func same(t *testing.T, what string, got, wanted []int64) {
	t.Helper()
	if !slices.Equal(got, wanted) {
		t.Errorf("%s: got %v, want %v", what, got, wanted)
	}
}

const (
	least    = math.MinInt64
	greatest = math.MaxInt64
)

// rising are lists that are strictly ascending.
func rising() [][]int64 {
	return [][]int64{
		nil, {}, {0}, {-1}, {7}, {least}, {greatest},
		{0, 1}, {-1, 0}, {-9, 9}, {least, greatest}, {least, least + 1}, {greatest - 1, greatest}, {1, 1 << 32}, {1<<32 + 1, 1<<33 + 1},
		{2, 5, 9}, {-3, -2, -1}, {least, 0, greatest}, {least, -1, 0, 1, greatest}, {1, 2, 3, 4, 5, 6, 7, 8, 9, 10}, {0, 10, 20, 30, 40, 50, 60, 70},
	}
}

// notRising are lists with two numbers that are the same, or that fall.
func notRising() [][]int64 {
	out := [][]int64{
		{0, 0}, {7, 7}, {least, least}, {greatest, greatest}, {1, 0}, {0, -1}, {greatest, least}, {least + 1, least}, {greatest, greatest - 1}, {1 << 32, 1},
		{2, 5, 5}, {2, 2, 5}, {5, 2, 9}, {2, 9, 5}, {9, 5, 2}, {2, 2, 2}, {1, 2, 3, 4, 5, 6, 7, 9, 8}, {2, 1, 3, 4, 5, 6, 7, 8, 9}, {0, least, greatest}, {least, greatest, 0}, {1, greatest, least},
	}
	for _, l := range rising() {
		for i := range l {
			out = append(out, slices.Insert(slices.Clone(l), i, l[i]), append(slices.Clone(l), l[i]))
		}
	}
	return out
}

// near are the numbers of a list, those next to them, and some others.
func near(l []int64) []int64 {
	out := []int64{least, least + 1, -1, 0, 1, 1 << 32, greatest - 1, greatest}
	for _, n := range l {
		out = append(out, n-1, n, n+1)
	}
	return out
}

// mosts are how many a list may have to be that there is no room, and room.
func mosts(l []int64) (no, yes []int) {
	no = []int{math.MinInt, math.MinInt + 1, -1, 0, len(l) - 1, len(l)}
	return no, []int{len(l) + 1, len(l) + 2, 1 << 40, math.MaxInt - 1, math.MaxInt}
}

// adds checks that Add answers OK, and returns the list.
func adds(t *testing.T, what string, l []int64, id int64, most int) []int64 {
	t.Helper()
	got, bad := Add(l, id, most)
	want(t, what, bad, api.OK)
	wanted := append(slices.Clone(l), id)
	slices.Sort(wanted)
	same(t, what, got, wanted)
	want(t, what+": is it right", Right(got), true)
	return got
}

// refuses checks that Add answers this error.
func refuses(t *testing.T, what string, wanted api.Errno, l []int64, id int64, most int) {
	t.Helper()
	got, bad := Add(l, id, most)
	want(t, what, bad, wanted)
	same(t, what, got, nil)
}

func TestExample(t *testing.T) {
	got, bad := Add([]int64{2, 5}, 3, 3)
	want(t, "Add", bad, api.OK)
	same(t, "Add", got, []int64{2, 3, 5})
}

// TestRight: P20.1, lists that are strictly ascending, and others.
func TestRight(t *testing.T) {
	for _, l := range rising() {
		want(t, "Right", Right(l), true)
	}
	for _, l := range notRising() {
		want(t, "Right of a list that is not", Right(l), false)
	}
	long := make([]int64, api.MaxBound+5)
	for i := range long {
		long[i] = int64(i) - 9
	}
	want(t, "Right of a long list", Right(long), true)
	for _, i := range []int{1, 2, len(long) / 2, len(long) - 1} {
		l := slices.Clone(long)
		l[i]--
		want(t, "Right of a long list with a number twice", Right(l), false)
		l[i]--
		want(t, "Right of a long list with a number that falls", Right(l), false)
	}
}

// TestKnown: P20.1, the numbers of a list and no others; and none of a list
// that is not strictly ascending.
func TestKnown(t *testing.T) {
	for _, l := range rising() {
		for _, n := range near(l) {
			want(t, "Known", Known(l, n), slices.Contains(l, n))
		}
	}
	for _, l := range notRising() {
		for _, n := range near(l) {
			want(t, "Known in a list that is not right", Known(l, n), false)
		}
	}
}

// TestAdd: P20.1, a number is put in its place, wherever that is.
func TestAdd(t *testing.T) {
	for _, l := range rising() {
		_, most := mosts(l)
		for _, n := range near(l) {
			if slices.Contains(l, n) {
				continue
			}
			for _, most := range most {
				adds(t, "Add", l, n, most)
			}
		}
	}
}

// TestAddFails: P20.1, each error alone, and each with those behind it.
func TestAddFails(t *testing.T) {
	for _, l := range rising() {
		no, yes := mosts(l)
		for _, n := range near(l) {
			bad := api.ErrQuota
			if slices.Contains(l, n) {
				bad = api.ErrKnown
				for _, most := range yes {
					refuses(t, "known", bad, l, n, most)
				}
			}
			for _, most := range no {
				refuses(t, "no room", bad, l, n, most)
			}
		}
	}
	for _, l := range notRising() {
		no, yes := mosts(l)
		for _, n := range near(l) {
			for _, most := range slices.Concat(no, yes) {
				refuses(t, "not right", api.ErrForm, l, n, most)
			}
		}
	}
}

// TestOneByOne: P20.2, numbers that are added in any order, one behind the
// other, till there is no more room.
func TestOneByOne(t *testing.T) {
	numbers := []int64{least, -4, -3, 0, 5, greatest}
	for _, order := range orders(len(numbers)) {
		var l []int64
		for _, i := range order {
			before := slices.Clone(l)
			l = adds(t, "one more", l, numbers[i], len(numbers))
			for _, n := range near(numbers) {
				want(t, "what is known then", Known(l, n), n == numbers[i] || Known(before, n))
			}
			refuses(t, "once more", api.ErrKnown, l, numbers[i], len(numbers))
		}
		same(t, "all", l, numbers)
		refuses(t, "one too many", api.ErrQuota, l, 1, len(numbers))
	}
}

// orders are all orders of so many numbers from 0 on.
func orders(n int) [][]int {
	if n == 0 {
		return [][]int{nil}
	}
	var out [][]int
	for _, l := range orders(n - 1) {
		for i := range n {
			out = append(out, slices.Insert(slices.Clone(l), i, n-1))
		}
	}
	return out
}

// dice are numbers that look thrown, and are the same in each run.
type dice uint64

func (d *dice) below(n int) int {
	*d = *d*6364136223846793005 + 1442695040888963407
	return int(uint64(*d) >> 33 % uint64(n))
}

// TestByChance: P20.1 and P20.2, lists and numbers by chance, held against the
// chapter's words.
func TestByChance(t *testing.T) {
	d := new(dice)
	count := map[api.Errno]int{}
	for range 30000 {
		l := make([]int64, d.below(7))
		for i := range l {
			l[i] = int64(d.below(20) - 5)
		}
		if d.below(4) > 0 {
			slices.Sort(l)
		}
		id, most := int64(d.below(22)-6), d.below(10)-1
		right := true
		for i := 1; i < len(l); i++ {
			right = right && l[i-1] < l[i]
		}
		want(t, "Right", Right(l), right)
		want(t, "Known", Known(l, id), right && slices.Contains(l, id))
		bad := api.OK
		switch {
		case !right:
			bad = api.ErrForm
		case slices.Contains(l, id):
			bad = api.ErrKnown
		case len(l) >= most:
			bad = api.ErrQuota
		}
		count[bad]++
		if bad != api.OK {
			refuses(t, "by chance", bad, l, id, most)
			continue
		}
		more := adds(t, "by chance", l, id, most)
		for n := int64(-9); n < 20; n++ {
			want(t, "what is known then", Known(more, n), n == id || Known(l, n))
		}
	}
	for _, bad := range []api.Errno{api.OK, api.ErrForm, api.ErrKnown, api.ErrQuota} {
		want(t, "so many of an answer", min(count[bad], 500), 500)
	}
}

// spared is a list with spare capacity that has something in it.
func spared(l []int64) []int64 {
	return append(append(make([]int64, 0, len(l)+3), l...), 96, 97, 98)[:len(l)]
}

// TestUnchanged: a list stays as it is, with its spare capacity, whatever is
// asked of it, and whatever is done with an answer.
func TestUnchanged(t *testing.T) {
	for _, l := range slices.Concat(rising(), notRising()) {
		for _, n := range near(l) {
			for _, most := range []int{0, len(l), len(l) + 1} {
				kept := spared(l)
				Right(kept)
				Known(kept, n)
				more, _ := Add(kept, n, most)
				for i := range more[:cap(more)] {
					more[:cap(more)][i] = 99
				}
				same(t, "the list", kept[:len(l)+3], append(slices.Clone(l), 96, 97, 98))
			}
		}
	}
}

// TestOwn: what is changed in a list that was handed in, or in an answer,
// changes no other answer.
func TestOwn(t *testing.T) {
	for _, n := range []int64{0, 3, 9} {
		l := spared([]int64{2, 5, 7})
		one, _ := Add(l, n, 9)
		two, _ := Add(l, n, 9)
		three := adds(t, "one behind the other", one, 8, 9)
		wanted := slices.Clone(one)
		for i := range l[:cap(l)] {
			l[:cap(l)][i] = 99
		}
		same(t, "the list was changed", one, wanted)
		for i := range three[:cap(three)] {
			three[:cap(three)][i] = 99
		}
		same(t, "the next answer was changed", one, wanted)
		for i := range one[:cap(one)] {
			one[:cap(one)][i] = 99
		}
		same(t, "another answer was changed", two, wanted)
	}
}
