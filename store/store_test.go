package store

import (
	"slices"
	"strings"
	"testing"

	"switchyard/api"
	"switchyard/block"
	"switchyard/wal"
)

func want[T comparable](t *testing.T, what string, got, wanted T) {
	t.Helper()
	if got != wanted {
		t.Errorf("%s: got %#v, want %#v", what, got, wanted)
	}
}

func wantAll[T comparable](t *testing.T, what string, got []T, wanted ...T) {
	t.Helper()
	if !slices.Equal(got, wanted) {
		t.Errorf("%s: got %#v, want %#v", what, got, wanted)
	}
}

func set(key, value string) Change { return Change{Key: key, Value: value} }
func gone(key string) Change       { return Change{Key: key, Gone: true} }

func xs(n int) string { return strings.Repeat("x", n) }

// lost is a loss of power at which no write lasts.
var lost = api.Crash{Torn: -1}

// holds checks all that a store has: keys in ascending order, each with its
// value behind it.
func holds(t *testing.T, what string, s *Store, pairs ...string) {
	t.Helper()
	var got []string
	for _, key := range s.Keys("") {
		v, found := s.Get(key)
		want(t, what+": Get", found, true)
		got = append(got, key, v)
	}
	wantAll(t, what, got, pairs...)
}

// stands checks what Free and Seq answer.
func stands(t *testing.T, what string, s *Store, free int, seq uint64) {
	t.Helper()
	want(t, what+": Free", s.Free(), free)
	want(t, what+": Seq", s.Seq(), seq)
}

func opened(t *testing.T, d *block.Device, per int) *Store {
	t.Helper()
	s, bad := Open(d, per)
	if bad != api.OK || s == nil {
		t.Fatalf("Open: %v", bad)
	}
	return s
}

// records returns what the log on a device has.
func records(t *testing.T, d *block.Device, per int) []string {
	t.Helper()
	_, out, bad := wal.Open(d, per)
	want(t, "the log's Open", bad, api.OK)
	return out
}

// packed is the encoding of a batch, as the chapter has it, where no count and
// no length needs more than one byte.
func packed(l ...Change) string {
	out := small(len(l))
	for _, c := range l {
		if c.Gone {
			out += "\x01" + small(len(c.Key)) + c.Key
		} else {
			out += "\x00" + small(len(c.Key)) + c.Key + small(len(c.Value)) + c.Value
		}
	}
	return out
}

func small(n int) string {
	if n > 127 {
		panic("more than one byte")
	}
	return string([]byte{byte(n)})
}

func TestExample(t *testing.T) {
	d := block.New(30)
	s := opened(t, d, 5)
	want(t, "Do", s.Do(set("a", "1"), set("b", "2")), api.OK)
	wantAll(t, "Keys", s.Keys(""), "a", "b")
	want(t, "Do of a deletion", s.Do(gone("a")), api.OK)
	wantAll(t, "Keys", s.Keys(""), "b")
	holds(t, "all", s, "b", "2")
	s = opened(t, d, 5)
	wantAll(t, "Keys, opened again", s.Keys(""), "b")
	holds(t, "all, opened again", s, "b", "2")
}

func TestGet(t *testing.T) {
	d := block.New(30)
	s := opened(t, d, 5)
	want(t, "Do", s.Do(set("a", "1"), set("b", ""), set("c", "3"), set("", "none"), set("a\x00", "0")), api.OK)
	want(t, "Do", s.Do(gone("c"), set("aa", "11"), set("aa", "12")), api.OK)
	for _, s := range []*Store{s, opened(t, d, 5)} {
		for _, c := range []struct {
			key, value string
			found      bool
		}{
			{"a", "1", true},
			{"b", "", true},
			{"c", "", false},
			{"", "none", true},
			{"a\x00", "0", true},
			{"aa", "12", true},
			{"d", "", false},
			{"A", "", false},
			{"a ", "", false},
			{"aaa", "", false},
			{"\x00", "", false},
			{xs(64), "", false},
			{xs(65), "", false},
			{xs(100000), "", false},
		} {
			v, found := s.Get(c.key)
			want(t, "Get of "+c.key, v, c.value)
			want(t, "Get of "+c.key, found, c.found)
		}
	}
}

func TestKeys(t *testing.T) {
	d := block.New(60)
	s := opened(t, d, 10)
	wantAll(t, "an empty store", s.Keys(""))
	wantAll(t, "an empty store", s.Keys("a"))
	all := []string{"", "\x00", "A", "a", "a\x00", "a\x00\xff", "aB", "aa", "aaa", "ab", "b", "ba", "\x7f", "\x80", "é", "\xff", "\xff\x00", "\xff\xff", xs(64)}
	slices.Sort(all)
	for _, i := range []int{7, 3, 18, 0, 11, 5, 1, 16, 9, 2, 14, 12, 4, 17, 6, 10, 8, 15, 13} {
		want(t, "Do", s.Do(set(all[i], "v"), set("gone", "v")), api.OK)
	}
	want(t, "Do", s.Do(gone("gone")), api.OK)
	aheads := append([]string{"c", "aaaa", "ab\x00", "\xc3", "\xfe", xs(63), xs(65), xs(1000)}, all...)
	for _, s := range []*Store{s, opened(t, d, 10)} {
		for _, ahead := range aheads {
			var wanted []string
			for _, key := range all {
				if len(key) >= len(ahead) && key[:len(ahead)] == ahead {
					wanted = append(wanted, key)
				}
			}
			wantAll(t, "Keys of "+ahead, s.Keys(ahead), wanted...)
		}
	}
	wantAll(t, "those of a", s.Keys("a"), "a", "a\x00", "a\x00\xff", "aB", "aa", "aaa", "ab")
	wantAll(t, "all of a key", s.Keys("aaa"), "aaa")
	wantAll(t, "one byte more", s.Keys("aaaa"))
	wantAll(t, "the greatest byte", s.Keys("\xff"), "\xff", "\xff\x00", "\xff\xff")
}

func TestNilStore(t *testing.T) {
	var s *Store
	many := make([]Change, mostChanges+1)
	for range 2 {
		want(t, "Do", s.Do(set("a", "1")), api.ErrNil)
		want(t, "Do of nothing", s.Do(), api.ErrNil)
		want(t, "Do of too many", s.Do(many...), api.ErrNil)
		want(t, "Do of what is too long", s.Do(set(xs(65), "")), api.ErrNil)
		want(t, "Checkpoint", s.Checkpoint(), api.ErrNil)
		for _, key := range []string{"", "a"} {
			v, found := s.Get(key)
			want(t, "Get", v, "")
			want(t, "Get", found, false)
			wantAll(t, "Keys", s.Keys(key))
		}
		stands(t, "nil", s, 0, 0)
	}
}

// TestTwoStores: what one store does changes nothing of another one.
func TestTwoStores(t *testing.T) {
	one, two := opened(t, block.New(30), 5), opened(t, block.New(30), 5)
	want(t, "Do", one.Do(set("a", "1"), set("b", "2")), api.OK)
	holds(t, "the other one", two)
	want(t, "Do", two.Do(set("a", "3")), api.OK)
	want(t, "Do", one.Do(gone("b")), api.OK)
	holds(t, "one", one, "a", "1")
	holds(t, "two", two, "a", "3")
}

// TestSameDevice: where a store is opened twice, each has its own table.
func TestSameDevice(t *testing.T) {
	d := block.New(30)
	one := opened(t, d, 5)
	want(t, "Do", one.Do(set("a", "1")), api.OK)
	two := opened(t, d, 5)
	want(t, "Do", two.Do(set("a", "2"), set("b", "2")), api.OK)
	holds(t, "one", one, "a", "1")
	holds(t, "two", two, "a", "2", "b", "2")
}

// TestFreeAndSeq: they are those of the log, of which each change here has two
// sectors of the four that a segment has.
func TestFreeAndSeq(t *testing.T) {
	d := block.New(30)
	s := opened(t, d, 5)
	stands(t, "Open", s, 5, 1)
	for round := range uint64(3) {
		for i, free := range []int{5, 4, 4, 3, 3, 2, 2, 1, 1} {
			want(t, "Do", s.Do(set("a", xs(100))), api.OK)
			stands(t, "Do", s, free, 2+10*round+uint64(i))
		}
		// There is no more room, so a checkpoint is written.
		want(t, "Do", s.Do(set("a", xs(100))), api.OK)
		stands(t, "Do of a full log", s, 5, 11+10*round)
	}
	want(t, "Do", s.Do(set("a", "1")), api.OK)
	stands(t, "Do", s, 5, 32)
	want(t, "Do of nothing", s.Do(), api.OK)
	stands(t, "Do of nothing", s, 5, 33)
	want(t, "Checkpoint", s.Checkpoint(), api.OK)
	stands(t, "Checkpoint", s, 5, 34)
	s.Get("a")
	s.Keys("")
	want(t, "Do of too much", s.Do(set("b", xs(1000))), api.ErrFull)
	want(t, "Do of what is too long", s.Do(set(xs(65), "")), api.ErrLong)
	stands(t, "refused", s, 5, 34)
	stands(t, "opened again", opened(t, d, 5), 5, 34)
}
