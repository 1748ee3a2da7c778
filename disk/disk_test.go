package disk_test

import (
	"math"
	"math/rand"
	"slices"
	"strings"
	"testing"

	"tryst/api"
	"tryst/disk"
)

// cell is a cell of one octet.
func cell(octet string) string { return strings.Repeat(octet, 64) }

// drive is one of cells of an octet each.
func drive(octets string) api.Drive {
	d := api.Drive{Fuel: -1}
	for i := range octets {
		d.Cells = append(d.Cells, cell(octets[i:i+1]))
	}
	return d
}

func same(a, b api.Drive) bool {
	return slices.Equal(a.Cells, b.Cells) && slices.Equal(a.Queue, b.Queue) && a.Fuel == b.Fuel && a.Off == b.Off
}

func write(t *testing.T, d api.Drive, at int, octets string) api.Drive {
	t.Helper()
	for i := range octets {
		var e api.Errno
		if d, e = disk.Write(d, at+i, cell(octets[i:i+1])); e != api.OK {
			t.Fatalf("Write: %d", e)
		}
	}
	return d
}

func mayNot() []api.Drive {
	with := func(change func(d *api.Drive)) api.Drive {
		d := drive("abc")
		d.Queue = []api.Wait{{At: 1, S: cell("x")}}
		change(&d)
		return d
	}
	return []api.Drive{
		{}, {Fuel: -1}, drive(strings.Repeat("a", api.MaxCells+1)),
		with(func(d *api.Drive) { d.Fuel = -2 }), with(func(d *api.Drive) { d.Fuel = math.MinInt }), with(func(d *api.Drive) { d.Cells[2] = "" }), with(func(d *api.Drive) { d.Cells[0] += "a" }),
		with(func(d *api.Drive) { d.Queue[0].At = 3 }), with(func(d *api.Drive) { d.Queue[0].At = -1 }), with(func(d *api.Drive) { d.Queue[0].At = math.MaxInt }), with(func(d *api.Drive) { d.Queue[0].S = cell("x")[1:] }), with(func(d *api.Drive) { d.Queue[0].S += "x" }),
	}
}

func TestMayAndNew(t *testing.T) { // P17.1
	waiting := drive("a")
	waiting.Queue = slices.Repeat([]api.Wait{{At: 0, S: cell("x")}}, 1000)
	waiting.Fuel, waiting.Off = 0, true
	for _, d := range []api.Drive{drive("a"), drive(strings.Repeat("a", api.MaxCells)), waiting, {Cells: []string{cell("a")}, Fuel: math.MaxInt}} {
		if !disk.May(d) {
			t.Errorf("May of %d cells is false", len(d.Cells))
		}
	}
	for i, d := range mayNot() {
		if disk.May(d) {
			t.Errorf("May of the %d. that may not be is true", i)
		}
		if s, e := disk.Read(d, 0, 0); s != "" || e != api.ErrArg {
			t.Errorf("Read of the %d.: %q, %d", i, s, e)
		}
		if got, e := disk.Write(d, 0, cell("x")); !same(got, api.Drive{}) || e != api.ErrArg {
			t.Errorf("Write to the %d.: %d", i, e)
		}
		if got, e := disk.Flush(d); !same(got, api.Drive{}) || e != api.ErrArg {
			t.Errorf("Flush of the %d.: %d", i, e)
		}
		if got, e := disk.Fuel(d, 1); !same(got, api.Drive{}) || e != api.ErrArg {
			t.Errorf("Fuel of the %d.: %d", i, e)
		}
		if got := disk.Crash(d, api.Loss{Kept: 1, Torn: -1}); !same(got, api.Drive{}) {
			t.Errorf("Crash of the %d.: %v", i, got)
		}
	}
	for _, n := range []int{1, 2, api.MaxCells} {
		if d, e := disk.New(n); !same(d, drive(strings.Repeat("\x00", n))) || e != api.OK || !disk.May(d) {
			t.Errorf("New(%d): %d", n, e)
		}
	}
	for _, n := range []int{0, -1, api.MaxCells + 1, math.MinInt, math.MaxInt} {
		if d, e := disk.New(n); !same(d, api.Drive{}) || e != api.ErrArg {
			t.Errorf("New(%d): %d", n, e)
		}
	}
}

func TestRead(t *testing.T) { // P17.2
	d := write(t, write(t, drive("abcd"), 1, "xy"), 2, "z")
	for _, c := range []struct {
		at, n int
		want  string
	}{{0, 4, "axzd"}, {0, 1, "a"}, {1, 2, "xz"}, {3, 1, "d"}, {0, 0, ""}, {4, 0, ""}, {2, 2, "zd"}} {
		want := ""
		for i := range c.want {
			want += cell(c.want[i : i+1])
		}
		if s, e := disk.Read(d, c.at, c.n); s != want || e != api.OK {
			t.Errorf("Read(%d, %d): %q, %d", c.at, c.n, s, e)
		}
	}
	for _, c := range [][2]int{{0, 5}, {4, 1}, {3, 2}, {5, 0}, {-1, 1}, {0, -1}, {1, math.MaxInt}, {math.MaxInt, 1}, {math.MaxInt, math.MaxInt}, {math.MinInt, 1}, {1, math.MinInt}, {math.MaxInt, 0}} {
		for _, off := range []bool{false, true} {
			d.Off = off
			if s, e := disk.Read(d, c[0], c[1]); s != "" || e != api.ErrRange {
				t.Errorf("Read(%d, %d): %q, %d", c[0], c[1], s, e)
			}
		}
	}
	if s, e := disk.Read(d, 0, 1); s != "" || e != api.ErrPower {
		t.Errorf("Read without power: %q, %d", s, e)
	}
}

func TestWrite(t *testing.T) { // P17.2
	d := drive("abcd")
	got, e := disk.Write(d, 1, cell("x")+cell("y"))
	want := drive("abcd")
	want.Queue = []api.Wait{{At: 1, S: cell("x")}, {At: 2, S: cell("y")}}
	if !same(got, want) || e != api.OK || !same(d, drive("abcd")) {
		t.Errorf("Write: %v, %d", got, e)
	}
	for n := 2; n < 9; n++ {
		one, _ := disk.Write(got, 0, cell("1"))
		other, _ := disk.Write(got, 3, cell("2"))
		if one.Queue[n] != (api.Wait{At: 0, S: cell("1")}) || other.Queue[n] != (api.Wait{At: 3, S: cell("2")}) || len(got.Queue) != n {
			t.Error("two drives of one have writes in common")
		}
		got = other
	}
	for _, s := range []string{"", "x", cell("x")[1:], cell("x") + "x"} {
		if got, e := disk.Write(d, 99, s); !same(got, api.Drive{}) || e != api.ErrArg {
			t.Errorf("Write of %d octets: %d", len(s), e)
		}
	}
	d.Off = true
	for _, at := range []int{-1, 4, math.MinInt, math.MaxInt} {
		if got, e := disk.Write(d, at, cell("x")); !same(got, api.Drive{}) || e != api.ErrRange {
			t.Errorf("Write at %d: %d", at, e)
		}
	}
	if got, e := disk.Write(d, 3, cell("x")+cell("y")); !same(got, api.Drive{}) || e != api.ErrRange {
		t.Errorf("Write of one cell too many: %d", e)
	}
	if got, e := disk.Write(d, 3, cell("x")); !same(got, d) || e != api.ErrPower {
		t.Errorf("Write without power: %v, %d", got, e)
	}
}

func TestWriteAndFlushBurn(t *testing.T) { // P17.2
	d := drive("abcd")
	d.Fuel = 2
	got, e := disk.Write(d, 0, cell("x")+cell("y")+cell("z"))
	want := drive("abcd")
	want.Fuel, want.Off, want.Queue = 0, true, []api.Wait{{At: 0, S: cell("x")}, {At: 1, S: cell("y")}}
	if !same(got, want) || e != api.ErrPower {
		t.Errorf("Write with too little fuel: %v, %d", got, e)
	}
	if again, e := disk.Flush(got); !same(again, want) || e != api.ErrPower {
		t.Errorf("Flush without power: %v, %d", again, e)
	}
	d.Fuel = 3
	got, e = disk.Write(d, 0, cell("x")+cell("y"))
	if got.Fuel != 1 || got.Off || e != api.OK {
		t.Errorf("Write with fuel: %v, %d", got, e)
	}
	got, e = disk.Flush(got)
	want = drive("xycd")
	want.Fuel = 0
	if !same(got, want) || e != api.OK {
		t.Errorf("Flush with the last fuel: %v, %d", got, e)
	}
	got, e = disk.Flush(got)
	want.Off = true
	if !same(got, want) || e != api.ErrPower {
		t.Errorf("Flush without fuel: %v, %d", got, e)
	}
	if got, e := disk.Fuel(got, 5); got.Fuel != 5 || !got.Off || e != api.OK {
		t.Errorf("fuel brings no power: %v, %d", got, e)
	}
	off := drive("ab")
	off.Off, off.Fuel = true, 5
	if got, e := disk.Write(off, 0, cell("x")); !same(got, off) || e != api.ErrPower {
		t.Errorf("Write burns without power: %v, %d", got, e)
	}
}

func TestFlush(t *testing.T) { // P17.2
	d := write(t, write(t, drive("abc"), 0, "xy"), 1, "z")
	before := write(t, write(t, drive("abc"), 0, "xy"), 1, "z")
	if got, e := disk.Flush(d); !same(got, drive("xzc")) || e != api.OK || !same(d, before) {
		t.Errorf("Flush: %v, %d", got, e)
	}
	if got, e := disk.Flush(drive("a")); !same(got, drive("a")) || e != api.OK {
		t.Errorf("Flush of nothing: %v, %d", got, e)
	}
}

func TestCrash(t *testing.T) { // P17.3
	d := write(t, drive("abc"), 0, "xyzv"[:3])
	d = write(t, d, 0, "w")
	mixed := func(cut int, first, then string) string { return cell(first)[:cut] + cell(then)[cut:] }
	for _, c := range []struct {
		l    api.Loss
		want []string
	}{
		{api.Loss{Torn: -1}, []string{cell("a"), cell("b"), cell("c")}}, {api.Loss{Torn: 9}, []string{cell("a"), cell("b"), cell("c")}}, {api.Loss{Kept: 1, Torn: -1}, []string{cell("x"), cell("b"), cell("c")}},
		{api.Loss{Kept: 6, Torn: 4}, []string{cell("a"), cell("y"), cell("z")}}, {api.Loss{Kept: 9, Torn: -1}, []string{cell("w"), cell("b"), cell("c")}}, {api.Loss{Kept: math.MaxUint64, Torn: math.MinInt}, []string{cell("w"), cell("y"), cell("z")}},
		{api.Loss{Torn: 1, Cut: 3}, []string{cell("a"), mixed(3, "y", "b"), cell("c")}}, {api.Loss{Kept: math.MaxUint64, Torn: 1, Cut: 63}, []string{cell("w"), mixed(63, "y", "b"), cell("z")}},
		{api.Loss{Kept: 7, Torn: 3, Cut: 5}, []string{mixed(5, "w", "x"), cell("y"), cell("z")}}, {api.Loss{Kept: 6, Torn: 3, Cut: 5}, []string{mixed(5, "w", "a"), cell("y"), cell("z")}},
		{api.Loss{Torn: 1, Cut: 0}, []string{cell("a"), cell("b"), cell("c")}}, {api.Loss{Torn: 1, Cut: -1}, []string{cell("a"), cell("b"), cell("c")}}, {api.Loss{Torn: 1, Cut: math.MinInt}, []string{cell("a"), cell("b"), cell("c")}},
		{api.Loss{Torn: 1, Cut: 64}, []string{cell("a"), cell("y"), cell("c")}}, {api.Loss{Torn: 1, Cut: 65}, []string{cell("a"), cell("y"), cell("c")}}, {api.Loss{Torn: 1, Cut: math.MaxInt}, []string{cell("a"), cell("y"), cell("c")}},
	} {
		for _, off := range []bool{false, true} {
			d.Off, d.Fuel = off, 0
			if got := disk.Crash(d, c.l); !same(got, api.Drive{Cells: c.want, Fuel: -1}) || len(d.Queue) != 4 || d.Cells[0] != cell("a") {
				t.Errorf("Crash(%v): %v", c.l, got)
			}
		}
	}
}

func TestCrashGoesThroughTheBitsAgain(t *testing.T) { // P17.3
	octets := strings.Repeat("x", 130)
	d := write(t, drive(strings.Repeat("a", 130)), 0, octets)
	got := disk.Crash(d, api.Loss{Kept: 1<<63 | 2, Torn: -1})
	for i, c := range got.Cells {
		want := cell("a")
		if i%64 == 63 || i%64 == 1 {
			want = cell("x")
		}
		if c != want {
			t.Errorf("the cell %d: %q", i, c[:1])
		}
	}
}

func TestFuel(t *testing.T) { // P17.3
	for _, n := range []int{-1, 0, 7, math.MaxInt} {
		want := drive("a")
		want.Fuel = n
		if got, e := disk.Fuel(drive("a"), n); !same(got, want) || e != api.OK {
			t.Errorf("Fuel(%d): %v, %d", n, got, e)
		}
	}
	for _, n := range []int{-2, math.MinInt} {
		if got, e := disk.Fuel(drive("a"), n); !same(got, api.Drive{}) || e != api.ErrArg {
			t.Errorf("Fuel(%d): %v, %d", n, got, e)
		}
	}
}

func TestWhatWasFlushedIsNotLost(t *testing.T) { // P17.4
	r := rand.New(rand.NewSource(17))
	for range 200 {
		d := drive("abcdef")
		for range r.Intn(9) {
			d = write(t, d, r.Intn(6), []string{"x", "y", "z"}[r.Intn(3)])
		}
		d, _ = disk.Flush(d)
		flushed := slices.Clone(d.Cells)
		at := r.Intn(5)
		d = write(t, d, at, "vw")
		d = disk.Crash(d, api.Loss{Kept: r.Uint64(), Torn: r.Intn(4) - 1, Cut: r.Intn(70)})
		for i := range d.Cells {
			if i != at && i != at+1 && d.Cells[i] != flushed[i] {
				t.Fatalf("the cell %d was lost", i)
			}
		}
	}
}
