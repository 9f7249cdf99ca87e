package store

import (
	"slices"
	"testing"
	"unsafe"

	"switchyard/api"
	"switchyard/block"
)

// alias is a string whose bytes are those of b.
func alias(b []byte) string {
	return unsafe.String(unsafe.SliceData(b), len(b))
}

// span is where bytes lie.
type span struct{ from, to uintptr }

func texts(l ...string) []span {
	var out []span
	for _, s := range l {
		if len(s) > 0 {
			from := uintptr(unsafe.Pointer(unsafe.StringData(s)))
			out = append(out, span{from, from + uintptr(len(s))})
		}
	}
	return out
}

// list is where a list lies, with its spare capacity.
func list[T any](l []T) []span {
	var x T
	if cap(l) == 0 {
		return nil
	}
	from := uintptr(unsafe.Pointer(unsafe.SliceData(l)))
	return []span{{from, from + uintptr(cap(l))*unsafe.Sizeof(x)}}
}

func changes(l []Change) []span {
	out := list(l)
	for _, c := range l {
		out = append(out, texts(c.Key, c.Value)...)
	}
	return out
}

func keys(l []string) []span {
	return append(list(l), texts(l...)...)
}

// apart checks that no two of these lie in one another.
func apart(t *testing.T, what string, all ...[]span) {
	t.Helper()
	spans := slices.Concat(all...)
	for i, a := range spans {
		for _, b := range spans[:i] {
			want(t, what+": apart", a.from < b.to && b.from < a.to, false)
		}
	}
}

// owned returns changes whose texts lie in the bytes that it returns as well,
// each in its own place; and spare capacity behind them.
func owned() ([]Change, []byte) {
	b := []byte("a1b22c333d4444eff")
	l := []Change{
		{Key: alias(b[0:1]), Value: alias(b[1:2])},
		{Key: alias(b[2:3]), Value: alias(b[3:5])},
		{Key: alias(b[5:6]), Value: alias(b[6:9])},
		{Key: alias(b[9:10]), Value: alias(b[10:14]), Gone: true},
		{Key: alias(b[14:15]), Value: alias(b[15:17])},
	}
	return l[:4], b
}

// spoil changes all that was handed in.
func spoil(l []Change, b []byte) {
	for i := range b {
		b[i] = '?'
	}
	for i := range l[:cap(l)] {
		l[:cap(l)][i] = Change{Key: "spoilt", Value: "spoilt", Gone: !l[:cap(l)][i].Gone}
	}
}

// TestKept: changes are changed by their owner, and the store stays as it is.
func TestKept(t *testing.T) {
	for _, full := range []bool{false, true} {
		d := block.New(15)
		s := opened(t, d, 5)
		for full && s.Free() > 1 || full && s.Seq() < 8 {
			want(t, "Do", s.Do(set("a", "0"), set("d", "0")), api.OK)
		}
		l, b := owned()
		want(t, "Do", s.Do(l...), api.OK)
		stands(t, "a checkpoint", s, 2, uint64(map[bool]int{false: 2, true: 9}[full]))
		for range 2 {
			holds(t, "Do", s, "a", "1", "b", "22", "c", "333")
			for key, value := range map[string]string{"a": "1", "b": "22", "c": "333"} {
				v, found := s.Get(key)
				want(t, "Get", found && v == value, true)
			}
			wantAll(t, "Keys", s.Keys("b"), "b")
			spoil(l, b)
		}
		want(t, "Do of a kept key", s.Do(gone("b"), set("a", "4")), api.OK)
		holds(t, "Do of a kept key", s, "a", "4", "c", "333")
		want(t, "Checkpoint", s.Checkpoint(), api.OK)
		wantAll(t, "the log", records(t, d, 5), packed(set("a", "4"), set("c", "333")))
	}
}

// TestSetAgain: a key that is set again by another string of the same bytes is
// kept as a copy of that one.
func TestSetAgain(t *testing.T) {
	s := opened(t, block.New(30), 5)
	for i := range 3 {
		b := []byte("key" + string(rune('0'+i)))
		want(t, "Do", s.Do(set(alias(b[:3]), alias(b[3:]))), api.OK)
		copy(b, "????")
		holds(t, "Do", s, "key", string(rune('0'+i)))
	}
	b := []byte("key")
	want(t, "Do", s.Do(gone(alias(b)), set(alias(b), "9"), gone(alias(b))), api.OK)
	copy(b, "???")
	holds(t, "Do", s)
}

// TestUnchanged: what is handed in stays as it is, with its spare capacity.
func TestUnchanged(t *testing.T) {
	kept, keptBytes := owned()
	same := func(what string, l []Change, b []byte) {
		t.Helper()
		want(t, what+": the bytes", string(b), string(keptBytes))
		wantAll(t, what+": the changes", l[:cap(l)], kept[:cap(kept)]...)
	}
	l, b := owned()
	_, bad := Pack(l...)
	want(t, "Pack", bad, api.OK)
	same("Pack", l, b)
	d := block.New(15)
	s := opened(t, d, 5)
	for range 20 {
		want(t, "Do", s.Do(l...), api.OK)
		same("Do", l, b)
	}
	long := []Change{set("a", "1"), set("b", xs(1000)), set("c", "")}
	want(t, "Do of too much", s.Do(long[:2]...), api.ErrFull)
	wantAll(t, "Do of too much", long, set("a", "1"), set("b", xs(1000)), set("c", ""))
	d.Fuse(2, lost)
	want(t, "Do without power", s.Do(l...), api.ErrPower)
	same("Do without power", l, b)
	want(t, "Do, closed", s.Do(l...), api.ErrClosed)
	same("Do, closed", l, b)
	e := []byte("\x02\x00\x01a\x02bc\x01\x01d")
	before := string(e)
	Unpack(alias(e))
	want(t, "Unpack", string(e), before)
}

// TestAnswers: what was answered is changed by its receiver, and the store
// stays as it is.
func TestAnswers(t *testing.T) {
	s := opened(t, block.New(30), 5)
	want(t, "Do", s.Do(set("a", "1"), set("b", "22"), set("bc", "333")), api.OK)
	for _, ahead := range []string{"", "b"} {
		l := s.Keys(ahead)
		clear(l)
		_ = append(l[:0], "spoilt")
		holds(t, "Keys, changed", s, "a", "1", "b", "22", "bc", "333")
	}
}

// TestOwn: no answer shares memory with another one, nor with what was handed
// in, nor with what is kept.
func TestOwn(t *testing.T) {
	l, _ := owned()
	one, _ := Pack(l...)
	two, _ := Pack(l...)
	apart(t, "Pack", changes(l[:cap(l)]), texts(one, two))
	first, _ := Unpack(one)
	second, _ := Unpack(one)
	apart(t, "Unpack", texts(one, two), changes(first), changes(second))

	d := block.New(30)
	s := opened(t, d, 5)
	want(t, "Do", s.Do(l...), api.OK)
	again := opened(t, d, 5)
	asked := []byte("b")
	for _, s := range []*Store{s, again} {
		v, _ := s.Get(alias(asked))
		w, _ := s.Get(alias(asked))
		apart(t, "Get", changes(l[:cap(l)]), list(asked), texts(v, w), texts(s.table["b"].Value))
		apart(t, "Keys", changes(l[:cap(l)]), list(asked), keys(s.Keys("")), keys(s.Keys(alias(asked))))
		for key, c := range s.table {
			apart(t, "Keys", changes(l[:cap(l)]), keys(s.Keys("")), texts(key))
			apart(t, "kept", changes(l[:cap(l)]), texts(key), texts(c.Value))
		}
	}
}
