package code

import (
	"slices"
	"strconv"
	"strings"
	"testing"

	"switchyard/api"
)

// refused checks that a Get answers an error, and nothing else.
func refused(t *testing.T, what string, sort sort, s string, wanted api.Errno) {
	t.Helper()
	x, bad := sort.get(s)
	want(t, what, bad, wanted)
	same(t, what, x, sort.zero())
}

// TestGetBeginning: every beginning of an encoding is too short.
func TestGetBeginning(t *testing.T) {
	for _, x := range samples() {
		sort, s := sortFor(x), piecesOf(x).text()
		for n := range len(s) {
			refused(t, sort.name+", "+strconv.Itoa(n)+" bytes", sort, s[:n], api.ErrShort)
		}
	}
	for _, e := range examples {
		for n := range len(e.s) {
			refused(t, sortFor(e.x).name, sortFor(e.x), e.s[:n], api.ErrShort)
		}
	}
}

// TestGetBehind: nothing may stand behind an encoding.
func TestGetBehind(t *testing.T) {
	for _, x := range samples() {
		sort, s := sortFor(x), piecesOf(x).text()
		for b := range 256 {
			refused(t, sort.name+" and a byte", sort, s+string([]byte{byte(b)}), api.ErrForm)
		}
		refused(t, sort.name+" and bytes", sort, s+strings.Repeat("\xff", 1000), api.ErrForm)
		refused(t, sort.name+" twice", sort, s+s, api.ErrForm)
	}
}

// TestGetFault: every piece of an encoding in turn gives way to what may not
// stand there. It is its error that counts, whatever comes behind it.
func TestGetFault(t *testing.T) {
	for _, x := range samples() {
		sort, all := sortFor(x), piecesOf(x)
		for i, one := range all {
			ahead, behind := all[:i].text(), all[i+1:].text()
			for _, f := range one.faults {
				what := sort.name + ", piece " + strconv.Itoa(i) + " as " + strconv.Quote(f.text)
				refused(t, what, sort, ahead+f.text, f.bad)
				refused(t, what+", more behind", sort, ahead+f.text+behind, f.bad)
				refused(t, what+", too much behind", sort, ahead+f.text+behind+"\x00", f.bad)
			}
		}
	}
}

// TestGetFirst: of two faults the first one counts.
func TestGetFirst(t *testing.T) {
	for _, x := range samples() {
		sort, all := sortFor(x), piecesOf(x)
		for i := range all {
			for k := i + 1; k < len(all); k++ {
				for _, first := range few(all[i]) {
					for _, second := range few(all[k]) {
						s := all[:i].text() + first.text + all[i+1:k].text() + second.text + all[k+1:].text()
						refused(t, sort.name+", pieces "+strconv.Itoa(i)+" and "+strconv.Itoa(k), sort, s, first.bad)
					}
				}
			}
		}
	}
}

// few is a fault of each error that a piece may have: more would be too many.
func few(p piece) []fault {
	var out []fault
	for _, f := range p.faults {
		if !slices.ContainsFunc(out, func(other fault) bool { return other.bad == f.bad }) {
			out = append(out, f)
		}
	}
	return out
}

// TestGetPlaces: when an error is detected, told by bytes that are written out.
func TestGetPlaces(t *testing.T) {
	text64, name24 := strings.Repeat("a", 64), strings.Repeat("a", 24)
	for _, c := range []struct {
		sort, s string
		bad     api.Errno
	}{
		{"Value", "", api.ErrShort},
		{"Value", "\x00", api.OK},
		{"Value", "\x00\x00", api.ErrForm},
		{"Value", "\x06", api.ErrForm},
		{"Value", "\xff", api.ErrForm},
		{"Value", "\x80\x00", api.ErrForm},
		{"Value", "\x01", api.ErrShort},
		{"Value", "\x01\x80", api.ErrShort},
		{"Value", "\x01\x80\x00", api.ErrForm},
		{"Value", "\x02", api.ErrShort},
		{"Value", "\x02\x02", api.ErrForm},
		{"Value", "\x03\x40" + text64, api.OK},
		{"Value", "\x03\x40" + text64[1:], api.ErrShort},
		{"Value", "\x03\x41" + text64 + "a", api.ErrLong},
		{"Value", "\x03\x41", api.ErrLong},
		{"Value", "\x03\x80\x01", api.ErrLong},
		{"Value", "\x03\xc1\x00", api.ErrForm},
		{"Value", "\x04", api.ErrShort},
		{"Value", "\x04\x00", api.ErrForm},
		{"Value", "\x04\x021", api.ErrShort}, // no name can come of it, but its bytes come first
		{"Value", "\x04\x0212", api.ErrForm},
		{"Value", "\x04\x02a1", api.OK},
		{"Value", "\x04\x18" + name24, api.OK},
		{"Value", "\x04\x18" + name24[1:] + "-", api.ErrForm},
		{"Value", "\x04\x19" + name24 + "a", api.ErrLong},
		{"Value", "\x04\x19", api.ErrLong},
		{"Value", "\x05\x00", api.OK},
		{"Value", "\x05\x10" + name24[:16], api.OK},
		{"Value", "\x05\x10" + name24[:15], api.ErrShort},
		{"Value", "\x05\x11" + name24[:17], api.ErrLong},
		{"Value", "\x05\x11", api.ErrLong},

		{"Mail", "\x00\x18" + name24 + "\x00\x00", api.OK},
		{"Mail", "\x00\x19" + name24 + "a\x00\x00", api.ErrLong},
		{"Mail", "\x00\x00\x10" + name24[:16], api.ErrForm},
		{"Mail", "\x00\x00\x10" + strings.Repeat("\x00", 17), api.OK},
		{"Mail", "\x00\x00\x11", api.ErrLong},
		{"Mail", "\x00\x00\x00\x10" + strings.Repeat("\x00", 16), api.OK},
		{"Mail", "\x00\x00\x00\x11", api.ErrLong},
		{"Mail", "\x00\x00\x00\x02\x04\x011\x06", api.ErrForm},
		{"Mail", "\x00\x00\x00\x02\x04\x011\x03\x41", api.ErrForm},
		{"Mail", "\x00\x00\x00\x02\x03\x41\x04\x011", api.ErrLong},
		{"Mail", "\x00\x00\x00\x02\x06", api.ErrForm},
		{"Mail", "\x00\x00\x01\x06\x80", api.ErrForm},

		{"Item", "\x00\x00\x00\x00\x00\x10" + strings.Repeat("\x00", 17), api.OK},
		{"Item", "\x00\x00\x00\x00\x00\x11", api.ErrLong},
		{"Item", "\x00\x00\x00\x00\x00\x01\xe8\x07\x00", api.OK},
		{"Item", "\x00\x00\x00\x00\x00\x01\xe9\x07\x00", api.ErrLong},
		{"Item", "\x00\x00\x00\x00\x00\x01\xe9", api.ErrShort},
		{"Item", "\x00\x00\x00\x00\x00\x01\x05\x00", api.OK},
		{"Item", "\x00\x00\x00\x00\x00\x01\x85\x00\x00", api.ErrForm},
		{"Item", "\x00\x00\x00\x00\x00\x00\x80\x20" + strings.Repeat("\x00", 4*4096), api.OK},
		{"Item", "\x00\x00\x00\x00\x00\x00\x80\x20" + strings.Repeat("\x00", 4*4096-1), api.ErrShort},
		{"Item", "\x00\x00\x00\x00\x00\x00\x81\x20" + strings.Repeat("\x00", 4*4097), api.ErrLong},
		{"Item", "\x00\x00\x00\x00\x00\x00\x81\x20", api.ErrLong},
		{"Item", "\x00\x00\x19", api.ErrLong},
		{"Item", "\x00\x00\x00\x19", api.ErrLong},

		{"Dead", "\x00\x00\x00\x00\x00\x05", api.OK},
		{"Dead", "\x00\x00\x00\x00\x00\x06", api.ErrLong},
		{"Dead", "\x00\x00\x00\x00\x00\x06\x00", api.ErrLong},
		{"Dead", "\x00\x00\x00\x00\x00\x85\x00", api.ErrForm},
		{"Dead", "\x00\x00\x00\x00\x01\x07\x06", api.ErrForm},

		{"Event", "\x00\x00\x00\x18" + name24 + "\x18" + name24 + "\x18" + name24 + "\x00", api.OK},
		{"Event", "\x00\x00\x00\x19", api.ErrLong},
		{"Event", "\x00\x00\x00\x00\x19", api.ErrLong},
		{"Event", "\x00\x00\x00\x00\x00\x19", api.ErrLong},
		{"Event", "\x00\x00\x00\x00\x00\x00\x11", api.ErrLong},

		{"Sub", "\x00\x00\x18" + name24, api.OK},
		{"Sub", "\x00\x00\x19" + name24 + "a", api.ErrLong},
		{"Sub", "\x00\x00\x19", api.ErrLong},
		{"Sub", "\x00\x80\x00\x19", api.ErrForm},
	} {
		for _, sort := range sorts() {
			if sort.name != c.sort {
				continue
			}
			what := c.sort + " of " + strconv.Quote(c.s)
			_, bad := sort.get(c.s)
			want(t, what, bad, c.bad)
			if c.bad != api.OK {
				refused(t, what, sort, c.s, c.bad)
			}
		}
	}
}

// spoil changes a few bytes by chance.
func (d *dice) spoil(s string) string {
	b := []byte(s)
	for range 1 + d.below(3) {
		at := d.below(len(b) + 1)
		end := min(at+d.below(3), len(b))
		var in []byte
		for range d.below(3) {
			in = append(in, "\x00\x01\x02\x03\x04\x05\x06\x10\x11\x18\x19\x40\x41\x7f\x80\x81\xe8\xffaZ_"[d.below(21)])
		}
		b = slices.Replace(b, at, end, in...)
	}
	return string(b)
}

// TestGetSpoilt: encodings with a few bytes changed by chance, some of which
// are encodings of something else then.
func TestGetSpoilt(t *testing.T) {
	r := new(dice(9))
	seen := map[string]map[api.Errno]int{}
	for range 20000 {
		all := samples()
		for range 4 {
			all = append(all, r.object())
		}
		x := all[r.below(len(all))]
		sort := sortFor(x)
		s := r.spoil(piecesOf(x).text())
		got, bad := sort.get(s)
		wanted, wantedBad := walked(sort, s)
		want(t, sort.name+" of "+strconv.Quote(s), bad, wantedBad)
		same(t, sort.name+" of "+strconv.Quote(s), got, wanted)
		if bad == api.OK {
			again, bad := sort.put(got)
			want(t, "Put again", bad, api.OK)
			want(t, "Put again", again, s)
		}
		if seen[sort.name] == nil {
			seen[sort.name] = map[api.Errno]int{}
		}
		seen[sort.name][bad]++
	}
	for _, sort := range sorts() {
		for _, bad := range []api.Errno{api.OK, api.ErrShort, api.ErrForm, api.ErrLong} {
			want(t, sort.name+" with "+bad.Error(), seen[sort.name][bad] > 10, true)
		}
	}
}

// TestGetJunk: bytes by chance, which hardly begin as an encoding does.
func TestGetJunk(t *testing.T) {
	r := new(dice(10))
	for range 20000 {
		b := make([]byte, r.below(20))
		for i := range b {
			b[i] = byte(r.below(256) >> r.below(8))
		}
		for _, sort := range sorts() {
			got, bad := sort.get(string(b))
			wanted, wantedBad := walked(sort, string(b))
			want(t, sort.name+" of "+strconv.Quote(string(b)), bad, wantedBad)
			same(t, sort.name+" of "+strconv.Quote(string(b)), got, wanted)
		}
	}
}
