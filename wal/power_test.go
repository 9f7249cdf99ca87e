package wal

import (
	"slices"
	"strings"
	"testing"

	"switchyard/api"
	"switchyard/block"
)

// act is an Append of some bodies, or a Checkpoint of the one there is.
type act struct {
	whole  bool
	bodies []string
}

func (a act) do(l *Log) api.Errno {
	if a.whole {
		return l.Checkpoint(a.bodies[0])
	}
	return l.Append(a.bodies...)
}

// after returns what the records may be where the power was lost during an act.
func (a act) after(records []string) [][]string {
	out := [][]string{records}
	if a.whole {
		return append(out, a.bodies)
	}
	for n := range a.bodies {
		out = append(out, slices.Concat(records, a.bodies[:n+1]))
	}
	return out
}

func one(list [][]string, records []string) bool {
	return slices.ContainsFunc(list, func(l []string) bool { return slices.Equal(l, records) })
}

// crashes returns losses of power: each choice of up to six writes, and others
// of more; with each sector torn in several places, and with none.
func crashes() []api.Crash {
	keeps := []uint64{1<<6 - 1<<3, 1<<12 - 1, 1<<12 - 1<<6, 0x5555, 0xaaaa, 1 << 9, 1<<64 - 1}
	for k := range uint64(1 << 6) {
		keeps = append(keeps, k)
	}
	var out []api.Crash
	for _, k := range keeps {
		out = append(out, api.Crash{Keep: k, Torn: -1})
		for at := range 13 {
			out = append(out, api.Crash{Keep: k, Torn: at, At: (at*17 + int(k)*5) % 65})
		}
	}
	return out
}

func acts() []act {
	long := strings.Repeat("l", 100)
	return []act{
		{false, []string{"a"}},
		{false, []string{"b", "c"}},
		{false, []string{long, "d", long, "e"}},
		{true, []string{"f"}},
		{true, []string{long}},
	}
}

// TestPowerLost: the power is lost at each call of the device during an act, in
// every way, and then once more when the log goes on behind it.
func TestPowerLost(t *testing.T) {
	for _, a := range acts() {
		for n := 1; ; n++ {
			ended := false
			for _, c := range crashes() {
				d := noisy(5 * 4)
				l := opened(t, d, 4)
				before := []string{"", "x", "y"}
				l.Append(before[1:]...)
				d.Fuse(n, c)
				bad := a.do(l)
				if ended = bad == api.OK; ended {
					break
				}
				want(t, "the device's error", bad, api.ErrPower)
				d.Up()
				goesOn(t, d, a.after(before))
			}
			if ended {
				break
			}
		}
	}
}

// goesOn checks that the records are one of these lists, and that the log still
// takes records behind them.
func goesOn(t *testing.T, d *block.Device, allowed [][]string) {
	t.Helper()
	l, records, bad := Open(d, 4)
	want(t, "Open", bad, api.OK)
	if !one(allowed, records) {
		t.Fatalf("Open: %q is none of %q", records, allowed)
	}
	if bad := l.Append("more"); bad == api.OK {
		records = append(records, "more")
	} else {
		want(t, "Append", bad, api.ErrFull)
	}
	_, again, _ := Open(d, 4)
	wantRecords(t, "Append", again, records...)
	want(t, "Checkpoint", l.Checkpoint("last"), api.OK)
	_, again, _ = Open(d, 4)
	wantRecords(t, "Checkpoint", again, "last")
}

// TestPowerLostInOpen: a log that is begun is begun again.
func TestPowerLostInOpen(t *testing.T) {
	for n := 1; ; n++ {
		for _, c := range crashes() {
			d := noisy(5 * 4)
			d.Fuse(n, c)
			l, records, bad := Open(d, 4)
			if bad == api.OK {
				want(t, "several calls of the device", n, 10)
				return
			}
			want(t, "the device's error", bad, api.ErrPower)
			want(t, "nothing beside it", l == nil && len(records) == 0, true)
			d.Up()
			goesOn(t, d, [][]string{{""}})
		}
	}
}

// dice is numbers by a fixed rule.
type dice uint64

func (d *dice) below(n int) int {
	*d = *d*6364136223846793005 + 1442695040888963407
	return int(uint64(*d) >> 33 % uint64(n))
}

// TestPowerLostAgain: a log lives through many losses of power, each of which
// finds what the others have left.
func TestPowerLostAgain(t *testing.T) {
	r := dice(1)
	d := noisy(6 * 4)
	var l *Log
	records := []string{""}
	for range 30000 {
		c := api.Crash{Keep: uint64(r.below(1 << 30)), Torn: r.below(20) - 5, At: r.below(65)}
		if l == nil {
			opened, found, bad := Open(d, 4)
			want(t, "Open", bad, api.OK)
			wantRecords(t, "Open", found, records...)
			l = opened
		}
		if r.below(3) == 0 {
			d.Fuse(1+r.below(12), c)
		}
		a := act{r.below(6) == 0, []string{string(rune('a' + r.below(26)))}}
		for !a.whole && r.below(2) == 0 {
			a.bodies = append(a.bodies, strings.Repeat("z", r.below(172)))
		}
		switch bad := a.do(l); {
		case bad == api.ErrFull && !a.whole:
		case bad == api.OK:
			records = a.after(records)[len(a.after(records))-1]
		case bad == api.ErrPower:
			d.Up()
			_, found, bad := Open(d, 4)
			want(t, "Open behind a loss", bad, api.OK)
			if !one(a.after(records), found) {
				t.Fatalf("%q is none of %q", found, a.after(records))
			}
			records, l = found, nil
		default:
			t.Fatalf("error %v of %v", bad, a)
		}
		if r.below(10) == 0 {
			d.Kill(c) // nothing is pending, so it changes nothing
			l = nil
		}
	}
}
