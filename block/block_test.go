package block

import (
	"math"
	"strings"
	"testing"

	"switchyard/api"
)

func want[T comparable](t *testing.T, what string, got, wanted T) {
	t.Helper()
	if got != wanted {
		t.Errorf("%s: got %#v, want %#v", what, got, wanted)
	}
}

// full is a sector's bytes, all of them the same.
func full(b byte) string {
	return strings.Repeat(string([]byte{b}), api.Sector)
}

var zero = full(0)

// reads checks what Read answers for a sector.
func reads(t *testing.T, what string, d *Device, i int, data string) {
	t.Helper()
	got, bad := d.Read(i)
	want(t, what+": Read", got, data)
	want(t, what+": Read's error", bad, api.OK)
}

// put writes, which must be OK.
func put(t *testing.T, d *Device, i int, data string) {
	t.Helper()
	want(t, "Write", d.Write(i, data), api.OK)
}

// holds checks that the power is on, that nothing waits, and what lasts.
func holds(t *testing.T, what string, d *Device, sectors ...string) {
	t.Helper()
	want(t, what+": Off", d.Off(), false)
	want(t, what+": Waits", d.Waits(), 0)
	want(t, what+": Lasting", d.Lasting(), strings.Join(sectors, ""))
	for i, s := range sectors {
		reads(t, what, d, i, s)
	}
}

// refused checks that a device without power refuses whatever it is given.
func refused(t *testing.T, what string, d *Device) {
	t.Helper()
	want(t, what+": Off", d.Off(), true)
	want(t, what+": Waits", d.Waits(), 0)
	for _, i := range []int{0, -1, d.Sectors(), math.MaxInt} {
		s, bad := d.Read(i)
		want(t, what+": Read", s, "")
		want(t, what+": Read's error", bad, api.ErrPower)
		want(t, what+": Write", d.Write(i, zero), api.ErrPower)
		want(t, what+": Write of too little", d.Write(i, "x"), api.ErrPower)
	}
	want(t, what+": Flush", d.Flush(), api.ErrPower)
	want(t, what+": still Off", d.Off(), true)
	want(t, what+": still no Waits", d.Waits(), 0)
}

func TestNew(t *testing.T) {
	for _, c := range []struct{ sectors, want int }{
		{math.MinInt, 0}, {-1, 0}, {0, 0}, {1, 1}, {2, 2}, {100, 100},
		{api.MaxSectors - 1, 4095}, {api.MaxSectors, 4096}, {api.MaxSectors + 1, 4096}, {math.MaxInt, 4096},
	} {
		d := New(c.sectors)
		want(t, "Sectors", d.Sectors(), c.want)
		want(t, "Waits", d.Waits(), 0)
		want(t, "Off", d.Off(), false)
		want(t, "Lasting", d.Lasting(), strings.Repeat(zero, c.want))
		for _, i := range []int{0, c.want / 2, c.want - 1} {
			if i >= 0 && i < c.want {
				reads(t, "a new device", d, i, zero)
			}
		}
		want(t, "Write behind the end", d.Write(c.want, zero), api.ErrArg)
		want(t, "Flush", d.Flush(), api.OK)
	}
}

func TestLastSector(t *testing.T) {
	d := New(math.MaxInt)
	put(t, d, 4095, full('z'))
	reads(t, "the last sector", d, 4095, full('z'))
	want(t, "Flush", d.Flush(), api.OK)
	want(t, "Lasting", d.Lasting(), strings.Repeat(zero, 4095)+full('z'))
}

func TestNilDevice(t *testing.T) {
	var d *Device
	for range 2 {
		want(t, "Sectors", d.Sectors(), 0)
		want(t, "Waits", d.Waits(), 0)
		want(t, "Off", d.Off(), false)
		want(t, "Lasting", d.Lasting(), "")
		for _, i := range []int{0, -1, 5} {
			s, bad := d.Read(i)
			want(t, "Read", s, "")
			want(t, "Read's error", bad, api.ErrNil)
			want(t, "Write", d.Write(i, zero), api.ErrNil)
			want(t, "Write of too little", d.Write(i, ""), api.ErrNil)
		}
		want(t, "Flush", d.Flush(), api.ErrNil)
		d.Kill(api.Crash{Keep: 1})
		d.Fuse(1, api.Crash{Keep: 1})
		d.Up()
		d.Fill("abc")
	}
}

func TestNoSector(t *testing.T) {
	for _, sectors := range []int{0, 1, 3} {
		d := New(sectors)
		for _, i := range []int{-1, -64, sectors, sectors + 1, math.MinInt, math.MaxInt} {
			s, bad := d.Read(i)
			want(t, "Read", s, "")
			want(t, "Read's error", bad, api.ErrArg)
			want(t, "Write", d.Write(i, zero), api.ErrArg)
			want(t, "Write of too little", d.Write(i, ""), api.ErrArg)
		}
		want(t, "Waits", d.Waits(), 0)
	}
}

func TestWriteOfWrongLength(t *testing.T) {
	d := New(1)
	put(t, d, 0, full('x'))
	for _, n := range []int{0, 1, 63, 65, 128, 1000} {
		want(t, "Write", d.Write(0, strings.Repeat("y", n)), api.ErrArg)
	}
	want(t, "Waits", d.Waits(), 1)
	reads(t, "behind wrong writes", d, 0, full('x'))
}

func TestWriteAndFlush(t *testing.T) {
	d := New(3)
	put(t, d, 1, full('a'))
	put(t, d, 2, full('b'))
	put(t, d, 1, full('c'))
	put(t, d, 1, full('d'))
	want(t, "Waits", d.Waits(), 4)
	reads(t, "pending", d, 0, zero)
	reads(t, "pending", d, 1, full('d'))
	reads(t, "pending", d, 2, full('b'))
	want(t, "Lasting ahead of Flush", d.Lasting(), strings.Repeat(zero, 3))
	want(t, "Flush", d.Flush(), api.OK)
	holds(t, "flushed", d, zero, full('d'), full('b'))
	put(t, d, 2, full('e'))
	reads(t, "over what lasts", d, 2, full('e'))
	want(t, "Lasting", d.Lasting(), zero+full('d')+full('b'))
	want(t, "Flush", d.Flush(), api.OK)
	want(t, "Flush of nothing", d.Flush(), api.OK)
	holds(t, "flushed again", d, zero, full('d'), full('e'))
}

func TestDevicesApart(t *testing.T) {
	a, b := New(1), New(1)
	put(t, a, 0, full('a'))
	want(t, "Flush", a.Flush(), api.OK)
	a.Fuse(1, api.Crash{})
	a.Flush()
	refused(t, "one", a)
	holds(t, "the other one", b, zero)
}

func TestKill(t *testing.T) {
	// Four writes wait, above what lasts: x of sector 0, y of 1, z of 0, w of 0.
	old := full('o')
	mixed := func(b byte, n int, behind string) string { return full(b)[:n] + behind[n:] }
	for _, c := range []struct {
		name        string
		crash       api.Crash
		first, next string
	}{
		{"nothing lasts", api.Crash{Torn: -1}, old, old},
		{"all lasts", api.Crash{Keep: 15, Torn: -1}, full('w'), full('y')},
		{"each bit", api.Crash{Keep: math.MaxUint64, Torn: -1}, full('w'), full('y')},
		{"bits of no write", api.Crash{Keep: math.MaxUint64 &^ 15, Torn: -1}, old, old},
		{"the first one", api.Crash{Keep: 1, Torn: -1}, full('x'), old},
		{"the second one", api.Crash{Keep: 2, Torn: -1}, old, full('y')},
		{"the third one", api.Crash{Keep: 4, Torn: -1}, full('z'), old},
		{"two of one sector", api.Crash{Keep: 5, Torn: -1}, full('z'), old},
		{"the last one", api.Crash{Keep: 8, Torn: -1}, full('w'), old},
		{"torn alone", api.Crash{Torn: 1, At: 3}, old, mixed('y', 3, old)},
		{"torn the first one", api.Crash{Torn: 0, At: 10}, mixed('x', 10, old), old},
		{"torn, its bit set", api.Crash{Keep: 2, Torn: 1, At: 3}, old, mixed('y', 3, old)},
		{"torn at nought, its bit set", api.Crash{Keep: 2, Torn: 1}, old, old},
		{"torn over one that lasts", api.Crash{Keep: 1, Torn: 2, At: 20}, mixed('z', 20, full('x')), old},
		{"torn under one that lasts", api.Crash{Keep: 8, Torn: 2, At: 20}, full('w'), old},
		{"torn under one that is lost", api.Crash{Keep: 2, Torn: 0, At: 63}, mixed('x', 63, old), full('y')},
		{"torn at 64", api.Crash{Torn: 3, At: 64}, full('w'), old},
		{"torn at 65", api.Crash{Torn: 3, At: 65}, old, old},
		{"torn at 66", api.Crash{Torn: 3, At: 66}, mixed('w', 1, old), old},
		{"torn at 129", api.Crash{Torn: 3, At: 129}, full('w'), old},
		{"torn at 130", api.Crash{Torn: 3, At: 130}, old, old},
		{"torn at the greatest", api.Crash{Torn: 3, At: math.MaxInt}, mixed('w', math.MaxInt%65, old), old},
		{"torn below nought", api.Crash{Keep: 15, Torn: 3, At: -1}, full('z'), full('y')},
		{"torn at -64", api.Crash{Torn: 3, At: -64}, old, old},
		{"torn at the least", api.Crash{Torn: 3, At: math.MinInt}, old, old},
		{"torn that isn't there", api.Crash{Keep: 1, Torn: 4, At: 9}, full('x'), old},
		{"torn far away", api.Crash{Keep: 2, Torn: math.MaxInt, At: 9}, old, full('y')},
		{"torn far below", api.Crash{Keep: 2, Torn: math.MinInt, At: 9}, old, full('y')},
	} {
		d := New(2)
		d.Fill(old + old)
		put(t, d, 0, full('x'))
		put(t, d, 1, full('y'))
		put(t, d, 0, full('z'))
		put(t, d, 0, full('w'))
		d.Kill(c.crash)
		holds(t, c.name, d, c.first, c.next)
	}
}

func TestKillOfMany(t *testing.T) {
	// Write i goes to sector i, and lasts by bit i mod 64.
	const keep, torn, cut, many = 0x8000_0000_F0F0_0005, 130, 7, 200
	d := New(many)
	var lasting []string
	for i := range many {
		s := full(byte(i + 1))
		put(t, d, i, s)
		switch {
		case i == torn:
			lasting = append(lasting, s[:cut]+zero[cut:])
		case uint64(keep)>>(i%64)&1 == 1:
			lasting = append(lasting, s)
		default:
			lasting = append(lasting, zero)
		}
	}
	want(t, "Waits", d.Waits(), many)
	d.Kill(api.Crash{Keep: keep, Torn: torn, At: cut})
	holds(t, "many", d, lasting...)
}

func TestKillCountsAnew(t *testing.T) {
	d := New(2)
	put(t, d, 0, full('a'))
	want(t, "Flush", d.Flush(), api.OK)
	put(t, d, 1, full('b'))
	d.Kill(api.Crash{Keep: 1, Torn: -1})
	holds(t, "behind a flush", d, full('a'), full('b'))
	put(t, d, 0, full('c'))
	d.Kill(api.Crash{Keep: 2, Torn: -1})
	holds(t, "behind a loss", d, full('a'), full('b'))
}

func TestKillCancelsFuse(t *testing.T) {
	d := New(1)
	d.Fuse(1, api.Crash{Keep: 1})
	d.Kill(api.Crash{Torn: -1})
	put(t, d, 0, full('a'))
	want(t, "Flush", d.Flush(), api.OK)
	holds(t, "no fuse", d, full('a'))
}

func TestKillWhileOff(t *testing.T) {
	d := New(1)
	put(t, d, 0, full('a'))
	d.Fuse(1, api.Crash{Keep: 1, Torn: -1})
	want(t, "Flush", d.Flush(), api.ErrPower)
	d.Fuse(1, api.Crash{})
	refused(t, "off", d)
	d.Kill(api.Crash{Keep: math.MaxUint64, Torn: 0, At: 5})
	holds(t, "on again", d, full('a'))
	put(t, d, 0, full('b'))
	want(t, "Flush", d.Flush(), api.OK)
	holds(t, "no fuse", d, full('b'))
}

func TestFuseAtWrite(t *testing.T) {
	for n := 1; n <= 4; n++ {
		for _, c := range []struct {
			crash api.Crash
			kept  func(i int) string
		}{
			{api.Crash{Torn: -1}, func(i int) string { return zero }},
			{api.Crash{Keep: 15, Torn: -1}, func(i int) string { return full(byte('a' + i)) }},
			// The write at which it happens is pending, so it can be torn.
			{api.Crash{Torn: n - 1, At: 4}, func(i int) string {
				if i == n-1 {
					return full(byte('a' + i))[:4] + zero[4:]
				}
				return zero
			}},
		} {
			d := New(4)
			d.Fuse(n, c.crash)
			lasting := []string{zero, zero, zero, zero}
			for i := range n - 1 {
				put(t, d, i, full(byte('a'+i)))
				want(t, "Off ahead of it", d.Off(), false)
				want(t, "Waits ahead of it", d.Waits(), i+1)
				lasting[i] = c.kept(i)
			}
			lasting[n-1] = c.kept(n - 1)
			want(t, "Write", d.Write(n-1, full(byte('a'+n-1))), api.ErrPower)
			refused(t, "off", d)
			want(t, "Lasting", d.Lasting(), strings.Join(lasting, ""))
			d.Up()
			holds(t, "on again", d, lasting...)
		}
	}
}

func TestFuseAtFlush(t *testing.T) {
	for _, c := range []struct {
		crash       api.Crash
		first, next string
	}{
		{api.Crash{Torn: -1}, zero, zero}, // not performed
		{api.Crash{Keep: 1, Torn: -1}, full('a'), zero},
		{api.Crash{Keep: 1, Torn: 1, At: 2}, full('a'), "bb" + zero[2:]},
	} {
		d := New(2)
		put(t, d, 0, full('a'))
		d.Fuse(2, c.crash)
		put(t, d, 1, full('b'))
		want(t, "Flush", d.Flush(), api.ErrPower)
		refused(t, "off", d)
		d.Up()
		holds(t, "on again", d, c.first, c.next)
	}
}

func TestFuseOfFlushes(t *testing.T) {
	d := New(1)
	d.Fuse(3, api.Crash{Keep: 1, Torn: -1})
	want(t, "first Flush", d.Flush(), api.OK)
	put(t, d, 0, full('a'))
	want(t, "second Flush", d.Flush(), api.ErrPower)
	d.Up()
	holds(t, "kept", d, full('a'))
}

func TestFuseCountsWhatIsDone(t *testing.T) {
	d := New(1)
	d.Fuse(2, api.Crash{Torn: -1})
	for range 3 {
		want(t, "Write of no sector", d.Write(1, zero), api.ErrArg)
		want(t, "Write of too little", d.Write(0, "x"), api.ErrArg)
		reads(t, "not counted", d, 0, zero)
		d.Read(7)
		d.Lasting()
		d.Waits()
		d.Sectors()
		d.Off()
		d.Fill("")
	}
	want(t, "first", d.Flush(), api.OK)
	want(t, "in between", d.Write(-1, zero), api.ErrArg)
	want(t, "second", d.Write(0, full('a')), api.ErrPower)
	refused(t, "off", d)
}

func TestFuseHappensOnce(t *testing.T) {
	d := New(1)
	d.Fuse(1, api.Crash{Keep: 1, Torn: -1})
	want(t, "Flush", d.Flush(), api.ErrPower)
	d.Up()
	for i := range 5 {
		put(t, d, 0, full(byte('a'+i)))
		want(t, "Flush", d.Flush(), api.OK)
		holds(t, "on for good", d, full(byte('a'+i)))
	}
}

func TestFuseIsCancelled(t *testing.T) {
	for _, n := range []int{0, -1, math.MinInt} {
		d := New(1)
		d.Fuse(1, api.Crash{Keep: 1})
		d.Fuse(n, api.Crash{Keep: 1})
		put(t, d, 0, full('a'))
		want(t, "Flush", d.Flush(), api.OK)
		holds(t, "cancelled", d, full('a'))
	}
	d := New(1)
	d.Fuse(-1, api.Crash{})
	put(t, d, 0, full('a'))
	want(t, "Flush with no fuse", d.Flush(), api.OK)
}

func TestFuseIsReplaced(t *testing.T) {
	d := New(1)
	d.Fuse(1, api.Crash{Torn: -1})
	d.Fuse(3, api.Crash{Keep: 2, Torn: -1})
	put(t, d, 0, full('a'))
	put(t, d, 0, full('b'))
	want(t, "Flush", d.Flush(), api.ErrPower)
	d.Up()
	holds(t, "the later fuse", d, full('b'))
}

func TestFuseFarAway(t *testing.T) {
	d := New(1)
	d.Fuse(math.MaxInt, api.Crash{})
	for range 100 {
		put(t, d, 0, full('a'))
		want(t, "Flush", d.Flush(), api.OK)
	}
}

func TestUp(t *testing.T) {
	d := New(1)
	put(t, d, 0, full('a'))
	d.Fuse(1, api.Crash{})
	d.Up()
	want(t, "what waits, with the power on", d.Waits(), 1)
	reads(t, "pending", d, 0, full('a'))
	want(t, "Flush", d.Flush(), api.OK)
	holds(t, "no fuse", d, full('a'))

	d.Fuse(1, api.Crash{})
	want(t, "Write", d.Write(0, full('b')), api.ErrPower)
	d.Fuse(1, api.Crash{})
	d.Up()
	put(t, d, 0, full('c'))
	want(t, "Flush", d.Flush(), api.OK)
	holds(t, "no fuse from while it was off", d, full('c'))
}

func TestFill(t *testing.T) {
	all := full('a') + full('b') + full('c')
	for _, c := range []struct{ s, lasting string }{
		{"", zero + zero + zero},
		{"q", "q" + zero[1:] + zero + zero},
		{all[:63], all[:63] + zero[63:] + zero + zero},
		{all[:64], all[:64] + zero + zero},
		{all[:65], all[:65] + zero[1:] + zero},
		{all[:191], all[:191] + zero[63:]},
		{all, all},
		{all + "d", all},
		{all + all, all},
	} {
		d := New(3)
		d.Fill(full('x') + full('y') + full('z'))
		put(t, d, 1, full('w'))
		d.Fill(c.s)
		holds(t, "filled", d, c.lasting[:64], c.lasting[64:128], c.lasting[128:])
		want(t, "Flush", d.Flush(), api.OK)
		want(t, "Lasting behind a Flush", d.Lasting(), c.lasting)
		other := New(3)
		other.Fill(d.Lasting())
		want(t, "Fill of Lasting", other.Lasting(), c.lasting)
	}
	none := New(0)
	none.Fill(all)
	want(t, "Fill of no sectors", none.Lasting(), "")
}

func TestFillLeavesPowerAndFuse(t *testing.T) {
	d := New(1)
	d.Fuse(1, api.Crash{Torn: -1})
	d.Fill(full('a'))
	want(t, "the fuse is there", d.Write(0, full('b')), api.ErrPower)
	d.Fill(full('c'))
	refused(t, "still off", d)
	want(t, "Lasting while off", d.Lasting(), full('c'))
	d.Up()
	holds(t, "on again", d, full('c'))
}

func TestExamples(t *testing.T) {
	x, y := full('x'), full('y')
	for _, c := range []struct {
		crash api.Crash
		want  string
	}{
		{api.Crash{Keep: 1, Torn: -1, At: 0}, x},
		{api.Crash{Keep: 0, Torn: 1, At: 3}, "yyy" + zero[3:]},
	} {
		d := New(1)
		put(t, d, 0, x)
		put(t, d, 0, y)
		d.Kill(c.crash)
		holds(t, "example", d, c.want)
	}
}
