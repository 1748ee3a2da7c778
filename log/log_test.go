package log_test

import (
	"fmt"
	"math"
	"math/rand"
	"slices"
	"strings"
	"testing"

	"tryst/api"
	"tryst/disk"
	"tryst/log"
)

func tape(from, long, at, serial int) api.Tape {
	return api.Tape{From: from, Len: long, At: at, Serial: serial}
}

func newDrive(t *testing.T, n int) api.Drive {
	t.Helper()
	d, e := disk.New(n)
	if e != api.OK {
		t.Fatalf("New: %d", e)
	}
	return d
}

func sameDrive(a, b api.Drive) bool {
	return slices.Equal(a.Cells, b.Cells) && slices.Equal(a.Queue, b.Queue) && a.Fuel == b.Fuel && a.Off == b.Off
}

// record is of n octets, of which no two neighbours are the same.
func record(n int) string {
	out := make([]byte, n)
	for i := range out {
		out[i] = byte(i%251 + 1)
	}
	return string(out)
}

func mayNot() []api.Tape {
	return []api.Tape{
		{}, tape(-1, 2, 0, 1), tape(math.MinInt, 2, 0, 1), tape(0, 0, 0, 1), tape(0, -1, -1, 1), tape(0, 9, 0, 1), tape(1, 8, 0, 1), tape(8, 1, 0, 1), tape(9, 1, 0, 1),
		tape(math.MaxInt, 1, 0, 1), tape(1, math.MaxInt, 0, 1), tape(math.MaxInt, math.MaxInt, 0, 1), tape(0, 2, -1, 1), tape(0, 2, 3, 1), tape(0, 2, math.MaxInt, 1), tape(0, 2, 0, 0), tape(0, 2, 0, -1), tape(0, 2, 0, 1<<24+1), tape(0, 2, 0, math.MaxInt),
	}
}

func TestMay(t *testing.T) { // P18.1
	d := newDrive(t, 8)
	for _, x := range []api.Tape{tape(0, 8, 0, 1), tape(0, 8, 8, 1<<24), tape(7, 1, 1, 5), tape(3, 2, 1, 1<<24-1)} {
		if !log.May(d, x) {
			t.Errorf("May(%v) is false", x)
		}
		if log.May(api.Drive{}, x) {
			t.Errorf("May(%v) on no drive", x)
		}
	}
	for _, x := range mayNot() {
		if log.May(d, x) {
			t.Errorf("May(%v) is true", x)
		}
		if got, behind, e := log.Append(d, x, "abc"); !sameDrive(got, api.Drive{}) || behind != (api.Tape{}) || e != api.ErrArg {
			t.Errorf("Append to %v: %d", x, e)
		}
		if records, behind, e := log.Scan(d, x); records != nil || behind != (api.Tape{}) || e != api.ErrArg {
			t.Errorf("Scan of %v: %d", x, e)
		}
	}
	if _, _, e := log.Append(api.Drive{}, tape(0, 8, 0, 1), "abc"); e != api.ErrArg {
		t.Errorf("Append to no drive: %d", e)
	}
	if _, _, e := log.Scan(api.Drive{}, tape(0, 8, 0, 1)); e != api.ErrArg {
		t.Errorf("Scan of no drive: %d", e)
	}
}

func TestCells(t *testing.T) { // P18.1
	for n, want := range map[int]int{0: 1, 1: 1, 58: 1, 59: 2, 118: 2, 119: 3, 178: 3, 179: 4, 4000: 67, 4001: 0, -1: 0, math.MinInt: 0, math.MaxInt: 0} {
		if got := log.Cells(n); got != want {
			t.Errorf("Cells(%d): %d", n, got)
		}
	}
}

func TestAppend(t *testing.T) { // P18.2
	d := newDrive(t, 8)
	got, behind, e := log.Append(d, tape(2, 6, 1, 0x010203), "abc")
	want := newDrive(t, 8)
	want.Cells[3] = "\x00\x03abc" + strings.Repeat("\x00", 55) + "\x01\x02\x03\x01"
	if !sameDrive(got, want) || behind != tape(2, 6, 2, 0x010204) || e != api.OK || !sameDrive(d, newDrive(t, 8)) {
		t.Errorf("Append: %v, %v, %d", got, behind, e)
	}
	s := record(119)
	got, behind, e = log.Append(d, tape(1, 7, 4, 1<<24-1), s)
	want = newDrive(t, 8)
	want.Cells[5] = "\x00\x77" + s[:58] + "\xff\xff\xff\x01"
	want.Cells[6] = s[58:118] + "\xff\xff\xff\x02"
	want.Cells[7] = s[118:] + strings.Repeat("\x00", 59) + "\xff\xff\xff\x02"
	if !sameDrive(got, want) || behind != tape(1, 7, 7, 1<<24) || e != api.OK {
		t.Errorf("Append of three cells: %v, %v, %d", got, behind, e)
	}
	got, _, _ = log.Append(d, tape(0, 8, 0, 1), "")
	if got.Cells[0] != strings.Repeat("\x00", 62)+"\x01\x01" {
		t.Errorf("Append of nothing: %q", got.Cells[0])
	}
}

func TestAppendRefuses(t *testing.T) { // P18.2
	d := newDrive(t, 100)
	for _, c := range []struct {
		x    api.Tape
		s    string
		want api.Errno
	}{
		{tape(0, 2, 0, 1), record(4001), api.ErrArg}, {tape(0, 2, 2, 1<<24), record(4001), api.ErrArg}, {tape(0, 2, 1, 2), record(59), api.ErrFull}, {tape(0, 2, 2, 2), "", api.ErrFull}, {tape(0, 66, 0, 1), record(4000), api.ErrFull},
		{tape(0, 2, 0, 1<<24), "", api.ErrFull},
	} {
		for _, off := range []bool{false, true} {
			d.Off = off
			if got, behind, e := log.Append(d, c.x, c.s); !sameDrive(got, api.Drive{}) || behind != (api.Tape{}) || e != c.want {
				t.Errorf("Append of %d octets to %v: %d", len(c.s), c.x, e)
			}
		}
	}
	if got, behind, e := log.Append(d, tape(0, 2, 0, 1), ""); !sameDrive(got, d) || behind != (api.Tape{}) || e != api.ErrPower {
		t.Errorf("Append without power: %v, %d", behind, e)
	}
}

func TestAppendBurns(t *testing.T) { // P18.2
	for _, c := range []struct{ octets, fuel int }{{58, 2}, {59, 4}, {119, 5}} {
		for fuel := range c.fuel + 1 {
			d, _ := disk.Fuel(newDrive(t, 8), fuel)
			got, behind, e := log.Append(d, tape(0, 8, 0, 1), record(c.octets))
			if fuel == c.fuel {
				if got.Fuel != 0 || e != api.OK || got.Queue != nil {
					t.Errorf("Append of %d octets with just enough fuel: %d", c.octets, e)
				}
				continue
			}
			if !got.Off || behind != (api.Tape{}) || e != api.ErrPower || len(got.Cells) != 8 {
				t.Errorf("Append of %d octets with fuel %d: %d", c.octets, fuel, e)
			}
			if others := c.fuel - 3; fuel <= others && len(got.Queue) != fuel {
				t.Errorf("with fuel %d there wait %d", fuel, len(got.Queue))
			}
			for _, w := range got.Queue { // the others are there ahead of the first
				if isFirst := w.At == 0; isFirst != (fuel >= c.fuel-1) {
					t.Errorf("with fuel %d a write of the cell %d waits", fuel, w.At)
				}
			}
		}
	}
}

func TestScan(t *testing.T) { // P18.3
	first := tape(1, 12, 0, 7)
	d, at := newDrive(t, 20), first
	want := []string{"abc", record(59), "", record(200), "\x00\x00"}
	places := []api.Tape{at}
	for _, s := range want {
		var e api.Errno
		if d, at, e = log.Append(d, at, s); e != api.OK {
			t.Fatalf("Append: %d", e)
		}
		places = append(places, at)
	}
	for i, place := range places {
		if records, behind, e := log.Scan(d, place); !slices.Equal(records, want[i:]) || behind != at || e != api.OK {
			t.Errorf("Scan from %v on: %q, %v, %d", place, records, behind, e)
		}
	}
	for _, x := range []api.Tape{tape(1, 12, 0, 6), tape(1, 12, 0, 8), tape(1, 12, 1, 7), tape(1, 12, 2, 8), tape(0, 12, 0, 7), tape(1, 12, 0, 1<<24)} {
		if records, behind, e := log.Scan(d, x); len(records) != 0 || behind != x || e != api.OK {
			t.Errorf("Scan of %v: %q, %v, %d", x, records, behind, e)
		}
	}
	if records, behind, e := log.Scan(d, tape(1, 2, 0, 7)); !slices.Equal(records, want[:1]) || behind != tape(1, 2, 1, 8) || e != api.OK {
		t.Errorf("Scan of a tape that ends in a record: %q, %v, %d", records, behind, e)
	}
	if records, behind, e := log.Scan(d, tape(1, 9, 0, 7)); !slices.Equal(records, want) || behind != tape(1, 9, 9, 12) || e != api.OK {
		t.Errorf("Scan of a tape that is full: %q, %v, %d", records, behind, e)
	}
	if records, behind, e := log.Scan(d, tape(1, 9, 9, 7)); len(records) != 0 || behind != tape(1, 9, 9, 7) || e != api.OK {
		t.Errorf("Scan from the end on: %q, %v, %d", records, behind, e)
	}
	if records, behind, e := log.Scan(d, tape(1, 6, 0, 7)); !slices.Equal(records, want[:3]) || behind != tape(1, 6, 4, 10) || e != api.OK {
		t.Errorf("Scan of a tape that ends in a long record: %q, %v, %d", records, behind, e)
	}
	waiting, _ := disk.Write(newDrive(t, 20), 1, d.Cells[1])
	if records, _, e := log.Scan(waiting, first); !slices.Equal(records, want[:1]) || e != api.OK {
		t.Errorf("Scan of a write that waits: %q, %d", records, e)
	}
	d.Off = true
	if records, behind, e := log.Scan(d, first); records != nil || behind != (api.Tape{}) || e != api.ErrPower {
		t.Errorf("Scan without power: %d", e)
	}
}

func TestScanOfCellsThatAreNoRecords(t *testing.T) { // P18.3
	whole, behind, _ := log.Append(newDrive(t, 8), tape(0, 8, 0, 7), record(150))
	whole, _, _ = log.Append(whole, behind, "x")
	// Another length, of as many cells, is another record, too.
	for cell := range 3 {
		for octet := range 64 {
			d := whole
			d.Cells = slices.Clone(whole.Cells)
			spoilt := []byte(d.Cells[cell])
			spoilt[octet] ^= 1
			d.Cells[cell] = string(spoilt)
			isData := cell == 0 && octet >= 1 && octet < 60 || cell == 1 && octet < 60 || cell == 2 && octet < 150-118
			records, _, e := log.Scan(d, tape(0, 8, 0, 7))
			if e != api.OK || (len(records) == 2) != isData || len(records) == 1 {
				t.Errorf("with the octet %d of the cell %d another one: %d records, %d", octet, cell, len(records), e)
			}
		}
	}
	d := newDrive(t, 100)
	d.Cells[0] = "\x0f\xa1" + strings.Repeat("a", 58) + "\x00\x00\x01\x01" // 4001 octets
	if records, _, e := log.Scan(d, tape(0, 100, 0, 1)); len(records) != 0 || e != api.OK {
		t.Errorf("a record that is too long: %d, %d", len(records), e)
	}
}

// forge has octets that look like cells of a record.
func forge(serial byte) string {
	cell := "\x00\x01x" + strings.Repeat("\x00", 57) + "\x00\x00" + string([]byte{serial}) + "\x01"
	return strings.Repeat(cell, 4)[4:]
}

func TestWhateverACrashKeepsARecordIsWholeOrNotThere(t *testing.T) { // P18.4
	r := rand.New(rand.NewSource(18))
	for range 300 {
		d, at := newDrive(t, 40), tape(3, 30, 0, 1)
		if r.Intn(2) == 0 { // records of lesser serials are there
			old := at
			for range 6 {
				d, old, _ = log.Append(d, old, record(r.Intn(250)))
			}
			at.Serial = old.Serial + r.Intn(300)
		}
		first := at
		var want []string
		for range 6 {
			s := record(r.Intn(200))
			if r.Intn(3) == 0 {
				s = forge(byte(at.Serial))[r.Intn(60):]
			}
			fuel := r.Intn(8)
			tried, _ := disk.Fuel(d, fuel)
			got, behind, e := log.Append(tried, at, s)
			if e == api.ErrFull {
				break
			}
			if got.Fuel >= 0 {
				got = disk.Crash(got, api.Loss{Kept: r.Uint64(), Torn: r.Intn(6) - 1, Cut: r.Intn(66)})
			}
			records, place, scanned := log.Scan(got, first)
			isDone := len(records) > len(want)
			if isDone {
				want = append(want, s)
			}
			if !slices.Equal(records, want) || scanned != api.OK || e == api.OK && (!isDone || place != behind) {
				t.Fatalf("Scan behind an Append (%d): %q, %d, want %q", e, records, scanned, want)
			}
			d, at = got, place
		}
	}
}

func TestEachWayAnAppendMayFail(t *testing.T) { // P18.4
	base, at, _ := log.Append(newDrive(t, 8), tape(0, 8, 0, 1), "ahead")
	base, _, _ = log.Append(base, tape(0, 8, 1, 2), record(300)) // of a log that went on, once
	at.Serial = 0x0102
	ahead, _, _ := log.Scan(base, tape(0, 8, 0, 1))
	if len(ahead) != 2 {
		t.Fatalf("ahead: %q", ahead)
	}
	s := record(130)
	done := map[bool]int{}
	for fuel := range 5 {
		for kept := range uint64(4) {
			for torn := -1; torn < 2; torn++ {
				for cut := range 65 {
					d, _ := disk.Fuel(base, fuel)
					d, _, e := log.Append(d, at, s)
					if e == api.OK {
						t.Fatal("there was fuel for all")
					}
					d = disk.Crash(d, api.Loss{Kept: kept, Torn: torn, Cut: cut})
					records, _, _ := log.Scan(d, at)
					if len(records) > 1 || len(records) == 1 && records[0] != s {
						t.Fatal(fmt.Sprint("half a record, with fuel ", fuel, ", kept ", kept, ", torn ", torn, ", cut ", cut))
					}
					done[len(records) == 1]++
					if first, _, _ := log.Scan(d, tape(0, 8, 0, 1)); len(first) == 0 || first[0] != "ahead" {
						t.Fatal("what was ahead is lost")
					}
				}
			}
		}
	}
	if done[true] == 0 || done[false] == 0 {
		t.Errorf("it was done %v", done)
	}
}
