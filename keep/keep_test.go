package keep_test

import (
	"fmt"
	"math"
	"math/rand"
	"slices"
	"strings"
	"testing"

	"tryst/api"
	"tryst/disk"
	"tryst/keep"
)

var small = api.Halves{Log: 5, Text: 3}

func newKeep(t *testing.T, h api.Halves, text string) *keep.Keep {
	t.Helper()
	k, e := keep.New(h, text)
	if e != api.OK {
		t.Fatalf("New: %d", e)
	}
	return k
}

func open(t *testing.T, d api.Drive, h api.Halves) *keep.Keep {
	t.Helper()
	k, e := keep.Open(d, h)
	if e != api.OK {
		t.Fatalf("Open: %d", e)
	}
	return k
}

func ok(t *testing.T, e api.Errno) {
	t.Helper()
	if e != api.OK {
		t.Fatalf("error %d", e)
	}
}

// has checks what is kept: by the keep, and once it is opened.
func has(t *testing.T, k *keep.Keep, h api.Halves, gen int, text string, records ...string) {
	t.Helper()
	if k.Gen() != gen || k.Text() != text || !slices.Equal(k.Records(), records) {
		t.Errorf("there is %q, %q by Gen %d; want %q, %q by %d", k.Text(), k.Records(), k.Gen(), text, records, gen)
	}
	if o := open(t, k.Drive(), h); o.Gen() != gen || o.Text() != text || !slices.Equal(o.Records(), records) {
		t.Errorf("opened there is %q, %q by Gen %d; want %q, %q by %d", o.Text(), o.Records(), o.Gen(), text, records, gen)
	}
}

func sameDrive(a, b api.Drive) bool {
	return slices.Equal(a.Cells, b.Cells) && slices.Equal(a.Queue, b.Queue) && a.Fuel == b.Fuel && a.Off == b.Off
}

// head is a head's cell, as the document lays it.
func head(gen, half, serial, length int) string {
	three := func(n int) string { return string([]byte{byte(n >> 16), byte(n >> 8), byte(n)}) }
	return three(gen) + string([]byte{byte(half)}) + three(serial) + string([]byte{byte(length >> 24)}) + three(length) + strings.Repeat("\x00", 49) + three(gen) + "\x03"
}

// padded is octets up to a whole cell.
func padded(s string) string { return s + strings.Repeat("\x00", 64-len(s)) }

func mayNot() []api.Halves {
	return []api.Halves{{}, {Log: 1}, {Text: 1}, {Log: -1, Text: 1}, {Log: 1, Text: -1}, {Log: 1501, Text: 1}, {Log: 1, Text: 1001}, {Log: math.MaxInt, Text: math.MaxInt}, {Log: math.MinInt, Text: 1}}
}

func TestSize(t *testing.T) { // P19.1
	for h, want := range map[api.Halves]int{{Log: 1, Text: 1}: 6, small: 18, {Log: 1500, Text: 1000}: 5002, {Log: 7, Text: 2}: 20} {
		if got := keep.Size(h); got != want {
			t.Errorf("Size(%v): %d", h, got)
		}
	}
	for _, h := range mayNot() {
		if got := keep.Size(h); got != 0 {
			t.Errorf("Size(%v): %d", h, got)
		}
		if k, e := keep.New(h, ""); k != nil || e != api.ErrArg {
			t.Errorf("New(%v): %d", h, e)
		}
		if k, e := keep.Open(newKeep(t, small, "").Drive(), h); k != nil || e != api.ErrArg {
			t.Errorf("Open by %v: %d", h, e)
		}
	}
}

func TestNew(t *testing.T) { // P19.1
	k := newKeep(t, small, "abc")
	want, _ := disk.New(18)
	want.Cells[1] = head(1, 0, 1, 3)
	want.Cells[7] = padded("abc")
	if !sameDrive(k.Drive(), want) {
		t.Errorf("New has %q", k.Drive().Cells)
	}
	has(t, k, small, 1, "abc")
	has(t, newKeep(t, small, ""), small, 1, "")
	most := strings.Repeat("x", 192)
	has(t, newKeep(t, small, most), small, 1, most)
	if k, e := keep.New(small, most+"x"); k != nil || e != api.ErrFull {
		t.Errorf("New of a text that is too long: %d", e)
	}
	if k, e := keep.New(api.Halves{}, most+"x"); k != nil || e != api.ErrArg {
		t.Errorf("New of no halves: %d", e)
	}
}

func TestOpenRefuses(t *testing.T) { // P19.1
	d := newKeep(t, small, "abc").Drive()
	refused := func(what string, d api.Drive, h api.Halves, want api.Errno) {
		t.Helper()
		if k, e := keep.Open(d, h); k != nil || e != want {
			t.Errorf("Open of %s: %d, want %d", what, e, want)
		}
	}
	refused("other halves", d, api.Halves{Log: 5, Text: 4}, api.ErrArg)
	refused("lesser halves", d, api.Halves{Log: 5, Text: 2}, api.ErrArg)
	refused("no drive", api.Drive{}, small, api.ErrArg)
	bad := d
	bad.Fuel = -2
	refused("a bad drive", bad, small, api.ErrArg)
	empty, _ := disk.New(18)
	refused("an empty drive", empty, small, api.ErrNone)
	d.Off = true
	refused("a drive without power", d, small, api.ErrPower)
	empty.Off = true
	refused("an empty drive without power", empty, small, api.ErrPower)
	refused("a drive without power, by other halves", d, api.Halves{Log: 5, Text: 4}, api.ErrArg)
}

func TestWhichHeadsCount(t *testing.T) { // P19.1 (Words)
	base, _ := disk.New(18)
	base.Cells[7], base.Cells[15] = padded("first"), padded("second")
	with := func(first, second string) api.Drive {
		d := base
		d.Cells = slices.Clone(base.Cells)
		d.Cells[0], d.Cells[1] = first, second
		return d
	}
	none := strings.Repeat("\x00", 64)
	for _, c := range []struct {
		what string
		d    api.Drive
		gen  int
		text string
	}{
		{"the greater Gen", with(head(2, 1, 1, 6), head(1, 0, 1, 5)), 2, "second"}, {"the greater Gen again", with(head(2, 1, 1, 6), head(3, 0, 1, 5)), 3, "first"}, {"any half", with(head(4, 0, 9, 5), head(1, 0, 1, 4)), 4, "first"},
		{"the greatest", with(head(1<<24-2, 1, 1, 6), head(1<<24-1, 0, 1<<24-1, 5)), 1<<24 - 1, "first"}, {"an empty text", with(none, head(1, 0, 1, 0)), 1, ""}, {"the one that there is", with(head(2, 1, 1, 6), none), 2, "second"},
		{"an odd Gen in the first place", with(head(3, 1, 1, 6), head(1, 0, 1, 5)), 1, "first"}, {"an even Gen in the second place", with(none, head(2, 1, 1, 6)), 0, ""}, {"Gen 0", with(head(0, 1, 1, 6), none), 0, ""},
		{"half 2", with(head(2, 2, 1, 6), head(1, 0, 1, 5)), 1, "first"}, {"serial 0", with(head(2, 1, 0, 6), head(1, 0, 1, 5)), 1, "first"}, {"a length that is too great", with(head(2, 1, 1, 193), head(1, 0, 1, 5)), 1, "first"}, {"the greatest length", with(head(2, 1, 1, 1<<32-1), head(1, 0, 1, 5)), 1, "first"},
		{"another end", with(head(2, 1, 1, 6)[:63]+"\x02", head(1, 0, 1, 5)), 1, "first"}, {"another Gen behind", with(head(2, 1, 1, 6)[:60]+head(4, 1, 1, 6)[60:], head(1, 0, 1, 5)), 1, "first"},
		{"octets between", with(head(2, 1, 1, 6)[:30]+"x"+head(2, 1, 1, 6)[31:], head(1, 0, 1, 5)), 1, "first"}, {"none", with(none, none), 0, ""},
	} {
		k, e := keep.Open(c.d, small)
		if c.gen == 0 {
			if k != nil || e != api.ErrNone {
				t.Errorf("%s: %d", c.what, e)
			}
			continue
		}
		if e != api.OK || k.Gen() != c.gen || k.Text() != c.text {
			t.Errorf("%s: %d", c.what, e)
		}
	}
}

func TestDriveAndFuel(t *testing.T) { // P19.2
	k := newKeep(t, small, "abc")
	ok(t, k.Fuel(3))
	if k.Drive().Fuel != 3 {
		t.Errorf("Fuel: %d", k.Drive().Fuel)
	}
	for _, n := range []int{-2, math.MinInt} {
		if e := k.Fuel(n); e != api.ErrArg || k.Drive().Fuel != 3 {
			t.Errorf("Fuel(%d): %d", n, e)
		}
	}
	ok(t, k.Fuel(-1))
	ok(t, k.Add("x"))
	records := k.Records()
	records[0] = "y"
	has(t, k, small, 1, "abc", "x")
}

func TestAdd(t *testing.T) { // P19.3
	k := newKeep(t, small, "abc")
	ok(t, k.Add("x"))
	has(t, k, small, 1, "abc", "x")
	ok(t, k.Add(""))
	ok(t, k.Add(strings.Repeat("y", 59)))
	if e := k.Add(strings.Repeat("z", 59)); e != api.ErrFull {
		t.Errorf("Add of two cells: %d", e)
	}
	if e := k.Add(strings.Repeat("z", 4001)); e != api.ErrArg {
		t.Errorf("Add of what is too long: %d", e)
	}
	has(t, k, small, 1, "abc", "x", "", strings.Repeat("y", 59))
	ok(t, k.Add("last"))
	if e := k.Add(""); e != api.ErrFull {
		t.Errorf("Add to what is full: %d", e)
	}
	want, _ := disk.New(18)
	if got := k.Drive().Cells; got[2][:3] != "\x00\x01x" || got[6][60:] != "\x00\x00\x04\x01" || !slices.Equal(got[10:], want.Cells[10:]) {
		t.Errorf("the cells: %q", got)
	}
}

func TestSave(t *testing.T) { // P19.3
	k := newKeep(t, small, "abc")
	ok(t, k.Add("x"))
	ok(t, k.Add("y"))
	ok(t, k.Save("d"))
	has(t, k, small, 2, "d")
	if got := k.Drive().Cells; got[0] != head(2, 1, 3, 1) || got[1] != head(1, 0, 1, 3) || got[15] != padded("d") || got[7] != padded("abc") {
		t.Errorf("the cells: %q", got)
	}
	ok(t, k.Add("z"))
	has(t, k, small, 2, "d", "z")
	long := strings.Repeat("e", 65)
	ok(t, k.Save(long))
	has(t, k, small, 3, long)
	if got := k.Drive().Cells; got[1] != head(3, 0, 4, 65) || got[7] != strings.Repeat("e", 64) || got[8] != padded("e") || got[9] != strings.Repeat("\x00", 64) {
		t.Errorf("the cells: %q", got)
	}
	ok(t, k.Save(""))
	has(t, k, small, 4, "")
	ok(t, k.Add("w"))
	has(t, k, small, 4, "", "w")
	if e := k.Save(strings.Repeat("x", 193)); e != api.ErrFull {
		t.Errorf("Save of a text that is too long: %d", e)
	}
	has(t, k, small, 4, "", "w")
}

func TestSaveAtTheEndOfNumbers(t *testing.T) { // P19.3
	d, _ := disk.New(18)
	d.Cells[0] = head(1<<24-2, 1, 5, 0)
	k := open(t, d, small)
	ok(t, k.Save("a"))
	has(t, k, small, 1<<24-1, "a")
	if e := k.Save("b"); e != api.ErrFull {
		t.Errorf("Save by a Gen that is too great: %d", e)
	}
	ok(t, k.Add("x"))
	has(t, k, small, 1<<24-1, "a", "x")

	d.Cells[0] = head(2, 1, 1<<24-1, 0)
	k = open(t, d, small)
	ok(t, k.Save("a"))
	ok(t, k.Add("x"))
	if e := k.Add("y"); e != api.ErrFull {
		t.Errorf("Add by a serial that is too great: %d", e)
	}
	if e := k.Save("b"); e != api.ErrFull {
		t.Errorf("Save by a serial that is too great: %d", e)
	}
	has(t, k, small, 3, "a", "x")
}

func TestWithoutPower(t *testing.T) { // P19.3
	k := newKeep(t, small, "abc")
	ok(t, k.Add("x"))
	ok(t, k.Fuel(0))
	for range 2 {
		if e := k.Add("y"); e != api.ErrPower {
			t.Errorf("Add without power: %d", e)
		}
	}
	if e := k.Add(strings.Repeat("y", 4001)); e != api.ErrPower {
		t.Errorf("Add of what is too long, without power: %d", e)
	}
	if e := k.Save(strings.Repeat("y", 193)); e != api.ErrPower {
		t.Errorf("Save without power: %d", e)
	}
	if !k.Drive().Off || k.Text() != "abc" || !slices.Equal(k.Records(), []string{"x"}) || k.Gen() != 1 {
		t.Errorf("there is %q, %q", k.Text(), k.Records())
	}
	has(t, open(t, disk.Crash(k.Drive(), api.Loss{}), small), small, 1, "abc", "x")
}

func TestWhatSaveBurns(t *testing.T) { // P19.3
	for _, c := range []struct {
		text string
		want int
	}{{"", 3}, {"a", 4}, {strings.Repeat("a", 65), 5}} {
		for fuel := range c.want + 1 {
			k := newKeep(t, small, "abc")
			ok(t, k.Fuel(fuel))
			e := k.Save(c.text)
			if (e == api.OK) != (fuel == c.want) || e != api.OK && e != api.ErrPower {
				t.Errorf("Save of %d octets with fuel %d: %d", len(c.text), fuel, e)
			}
			if e == api.ErrPower && (k.Text() != "abc" || k.Gen() != 1) {
				t.Errorf("Save that failed changed the text")
			}
		}
	}
}

// kept is what is kept, as a text.
func kept(k *keep.Keep) string { return fmt.Sprintf("%d %q %q", k.Gen(), k.Text(), k.Records()) }

func TestEachWayASaveOrAnAddMayFail(t *testing.T) { // P19.4
	base := newKeep(t, small, "abc")
	for _, text := range []string{"d", strings.Repeat("e", 130), "f"} { // old texts, and records, are in both halves
		ok(t, base.Add("old"+text[:1]))
		ok(t, base.Add(strings.Repeat("o", 70)))
		ok(t, base.Save(text))
	}
	ok(t, base.Add("r"))
	for what, do := range map[string]func(k *keep.Keep) api.Errno{
		"Save": func(k *keep.Keep) api.Errno { return k.Save(strings.Repeat("g", 100)) },
		"Add":  func(k *keep.Keep) api.Errno { return k.Add(strings.Repeat("s", 100)) },
	} {
		before := kept(base)
		done := open(t, base.Drive(), small)
		ok(t, do(done))
		after := kept(done)
		seen := map[string]int{}
		for fuel := range 6 {
			for mask := range uint64(8) {
				for torn := -1; torn < 3; torn++ {
					for cut := range 65 {
						k := open(t, base.Drive(), small)
						ok(t, k.Fuel(fuel))
						e := do(k)
						d := disk.Crash(k.Drive(), api.Loss{Kept: mask, Torn: torn, Cut: cut})
						got := kept(open(t, d, small))
						if got != after && (got != before || e == api.OK) {
							t.Fatalf("%s (%d): with fuel %d, kept %d, torn %d, cut %d there is %s", what, e, fuel, mask, torn, cut, got)
						}
						seen[got]++
					}
				}
			}
		}
		if len(seen) != 2 {
			t.Errorf("%s: seen %v", what, seen)
		}
	}
}

func TestWhateverThePowerDoes(t *testing.T) { // P19.4
	r := rand.New(rand.NewSource(19))
	for range 60 {
		k := newKeep(t, small, "")
		want := kept(k)
		for range 60 {
			if r.Intn(3) == 0 {
				ok(t, k.Fuel(r.Intn(7)))
			}
			next := do(r, k)
			done := kept(k)
			if !k.Drive().Off {
				want = done
				if r.Intn(4) > 0 {
					continue
				}
			}
			d := disk.Crash(k.Drive(), api.Loss{Kept: r.Uint64(), Torn: r.Intn(6) - 1, Cut: r.Intn(66)})
			k = open(t, d, small)
			if got := kept(k); got != want && got != next {
				t.Fatalf("there is %s; want %s or %s", got, want, next)
			}
			want = kept(k)
		}
	}
}

// do adds, or saves, something; and tells what would be kept then.
func do(r *rand.Rand, k *keep.Keep) string {
	s := strings.Repeat(string([]byte{byte('a' + r.Intn(26))}), r.Intn(190))
	if r.Intn(3) > 0 {
		next := fmt.Sprintf("%d %q %q", k.Gen(), k.Text(), append(k.Records(), s))
		if e := k.Add(s); e != api.ErrFull {
			return next
		}
	}
	next := fmt.Sprintf("%d %q %q", k.Gen()+1, s, []string(nil))
	k.Save(s)
	return next
}
