package view

import (
	"slices"
	"strings"
	"testing"

	"switchyard/api"
	"switchyard/value"
)

// dice are numbers that look thrown, and are the same in each run.
type dice uint64

func (d *dice) below(n int) int {
	*d = *d*6364136223846793005 + 1442695040888963407
	return int(uint64(*d) >> 33 % uint64(n))
}

func one[T any](d *dice, l ...T) T { return l[d.below(len(l))] }

// some are some of these, in any order.
func some(d *dice, l ...string) []string {
	var out []string
	for _, s := range l {
		if d.below(2) == 0 {
			out = slices.Insert(out, d.below(len(out)+1), s)
		}
	}
	return out
}

// where is a condition and what it needs: whether it holds of an artifact's
// first three values, where a nil is a value that is missing.
type where struct {
	text  string
	holds func(k, n *int64, f *bool) bool
}

func conditions() []where {
	return []where{
		{"", func(k, n *int64, f *bool) bool { return true }},
		{"where k > 0", func(k, n *int64, f *bool) bool { return k != nil && *k > 0 }},
		{"where n < 2", func(k, n *int64, f *bool) bool { return n != nil && *n < 2 }},
		{"where f", func(k, n *int64, f *bool) bool { return f != nil && *f }},
		{"where !f && k < n", func(k, n *int64, f *bool) bool { return f != nil && !*f && k != nil && n != nil && *k < *n }},
		{"where f || n == 1", func(k, n *int64, f *bool) bool { return f != nil && (*f || n != nil && *n == 1) }},
		{"where 6 / k > n", func(k, n *int64, f *bool) bool { return k != nil && n != nil && *k != 0 && 6 / *k > *n }},
		{"where false && f", func(k, n *int64, f *bool) bool { return false }},
	}
}

// sight is what a role sees of the type a, as the test knows it.
type sight struct {
	attrs, states []string
	where         where
}

func (d *dice) sight() sight {
	return sight{some(d, "k", "n", "f", "t", "c", "l"), some(d, "new", "mid", "end"), one(d, conditions()...)}
}

// source is how the sight is written.
func (s sight) source() string {
	out := "role r { sees a"
	if len(s.attrs) > 0 {
		out += "(" + strings.Join(s.attrs, ", ") + ")"
	}
	if len(s.states) > 0 {
		out += " in " + strings.Join(s.states, ", ")
	}
	return out + " " + s.where.text + "; sees c; }"
}

// item is an artifact, of a, mostly, with values that are mostly valid.
func (d *dice) item() api.Item {
	x := made(int64(d.below(9)-4), in(one(d, "new", "mid", "end")), with(0, num(int64(d.below(4)-1))), with(1, num(int64(d.below(4)))), with(2, flag(int64(d.below(2)))))
	if d.below(4) == 0 {
		x.Attrs[d.below(6)] = one(d, notValues()...)
	}
	if d.below(12) == 0 {
		x.Attrs[d.below(3)] = api.Value{}
	}
	if d.below(12) == 0 {
		x.Attrs = x.Attrs[:d.below(6)]
	}
	if d.below(9) == 0 {
		x.Attrs = append(x.Attrs, num(5), flag(7))
	}
	if d.below(9) == 0 {
		x.Type = one(d, "b", "c", "none", "")
	}
	if d.below(30) == 0 {
		x.State = "none"
	}
	return x
}

// valid is a value's number; nil for one that is not valid, or missing.
func valid(v api.Value) *int64 {
	if !value.Right(v) || v.Kind == api.None {
		return nil
	}
	return &v.Num
}

// expected is what See has to answer, by the chapter's words.
func (s sight) expected(x api.Item) (api.View, bool) {
	if x.Type == "c" && len(x.Attrs) > 0 {
		return view(x), true
	}
	if x.Type != "a" || len(s.states) > 0 && !slices.Contains(s.states, x.State) || len(x.Attrs) < 6 {
		return api.View{}, false
	}
	k, n, b := valid(x.Attrs[0]), valid(x.Attrs[1]), valid(x.Attrs[2])
	var f *bool
	if b != nil {
		holds := *b == 1
		f = &holds
	}
	if !s.where.holds(k, n, f) {
		return api.View{}, false
	}
	out := view(x)
	for _, name := range s.attrs {
		out.Attrs = append(out.Attrs, x.Attrs[strings.Index("knftcl", name)])
	}
	return out, true
}

// TestByChance: P22.1 and P22.2, sights and artifacts by chance, and what the
// chapter says of them.
func TestByChance(t *testing.T) {
	dice := new(dice)
	count := map[bool]int{}
	for range 1500 {
		s := dice.sight()
		d := read(t, full+s.source())
		var items []api.Item
		var views []api.View
		for range dice.below(12) {
			x := dice.item()
			items = append(items, x)
			v, seen := s.expected(x)
			if count[seen]++; !seen {
				hides(t, s.source(), map[bool]api.Errno{true: api.ErrName}[x.Type == "none" || x.Type == ""], d, "r", x)
				continue
			}
			sees(t, s.source(), d, "r", x, v.Attrs...)
			if x.Type == "a" {
				views = append(views, v)
			}
		}
		for i := range views { // the plainest sort that keeps the order of equals
			for j := i; j > 0 && views[j-1].Item > views[j].Item; j-- {
				views[j-1], views[j] = views[j], views[j-1]
			}
		}
		asks(t, s.source(), d, "r", "a", items, views...)
	}
	want(t, "many that are seen", count[true] > 2000, true)
	want(t, "many that are not seen", count[false] > 2000, true)
}

// TestInfluence: P22.3, what a sight has neither in its Attrs nor in its Where
// makes no difference, whatever it is changed to.
func TestInfluence(t *testing.T) {
	dice := new(dice)
	names := []string{"k", "n", "f", "t", "c", "l"}
	changed := map[bool]int{}
	for range 3000 {
		s := dice.sight()
		d := read(t, full+s.source())
		x, y := made(5, in(one(dice, "new", "mid", "end")), with(0, num(int64(dice.below(4)-1))), with(1, num(int64(dice.below(4)))), with(2, flag(int64(dice.below(2))))), made(5)
		y.State = x.State
		for i, name := range names {
			if slices.Contains(s.attrs, name) || slices.Contains(strings.Fields(strings.ReplaceAll(s.where.text, "!", "")), name) {
				y.Attrs[i] = x.Attrs[i]
			} else {
				y.Attrs[i] = one(dice, append(notValues(), api.Value{}, num(9), flag(1), text("x"), sym("red"), sym("green"), list(), list(7))...)
			}
		}
		v, seen := See(d, "r", x)
		w, also := See(d, "r", y)
		changed[seen]++
		want(t, s.source(), also, seen)
		same(t, s.source(), w, v)
		e, _ := Happened(d, "r", event(1, "go", x))
		f, _ := Happened(d, "r", event(1, "go", y))
		same(t, s.source(), f, e)
		l, _ := Query(d, "r", "a", []api.Item{x, made(-5), x})
		m, _ := Query(d, "r", "a", []api.Item{y, made(-5), y})
		same(t, s.source(), m, l)
	}
	want(t, "many that are seen", changed[true] > 500, true)
	want(t, "many that are not seen", changed[false] > 500, true)
}
