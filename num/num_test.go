package num_test

import (
	"math"
	"math/rand"
	"strings"
	"testing"

	"tryst/api"
	"tryst/num"
)

// edges are numbers at which a width ends, and their neighbours.
func edges() []uint64 {
	out := []uint64{0, math.MaxUint64}
	for i := range 64 {
		out = append(out, 1<<i-1, 1<<i, 1<<i+1)
	}
	random := rand.New(rand.NewSource(1))
	for i := range 2000 {
		out = append(out, random.Uint64()>>(i%64))
	}
	return out
}

// P1.1
func TestPutLaysTheHighestOctetFirst(t *testing.T) {
	for _, c := range []struct {
		n    uint64
		wide int
		want string
	}{
		{0, 1, "\x00"}, {255, 1, "\xff"}, {256, 2, "\x01\x00"}, {258, 3, "\x00\x01\x02"},
		{1<<24 - 1, 3, "\xff\xff\xff"}, {0, 8, strings.Repeat("\x00", 8)},
		{math.MaxUint64, 8, strings.Repeat("\xff", 8)}, {0x0102030405060708, 8, "\x01\x02\x03\x04\x05\x06\x07\x08"},
	} {
		if s, e := num.Put(c.n, c.wide); s != c.want || e != api.OK {
			t.Errorf("Put(%d, %d): %x, %d", c.n, c.wide, s, e)
		}
	}
}

// P1.1
func TestPutRefusesWhatHasNoRoom(t *testing.T) {
	for _, wide := range []int{0, -1, 9, math.MinInt, math.MaxInt} {
		if s, e := num.Put(0, wide); s != "" || e != api.ErrArg {
			t.Errorf("Put(0, %d): %x, %d", wide, s, e)
		}
	}
	for wide := 1; wide < 8; wide++ {
		if s, e := num.Put(1<<(8*wide), wide); s != "" || e != api.ErrArg {
			t.Errorf("Put of one bit too many, %d wide: %x, %d", wide, s, e)
		}
		if _, e := num.Put(1<<(8*wide)-1, wide); e != api.OK {
			t.Errorf("Put of all bits, %d wide: %d", wide, e)
		}
	}
}

// P1.1
func TestGet(t *testing.T) {
	if n, e := num.Get("\x00\x01\x02"); n != 258 || e != api.OK {
		t.Errorf("Get: %d, %d", n, e)
	}
	if n, e := num.Get(strings.Repeat("\xff", 8)); n != math.MaxUint64 || e != api.OK {
		t.Errorf("Get of the greatest: %d, %d", n, e)
	}
	for _, s := range []string{"", strings.Repeat("\x00", 9), strings.Repeat("a", 1000)} {
		if n, e := num.Get(s); n != 0 || e != api.ErrArg {
			t.Errorf("Get of %d octets: %d, %d", len(s), n, e)
		}
	}
}

// P1.2
func TestPackIsAsShortAsCanBe(t *testing.T) {
	for n, want := range map[uint64]string{
		0: "\x00", 1: "\x01", 127: "\x7f", 128: "\x80\x01", 300: "\xac\x02", 16383: "\xff\x7f", 16384: "\x80\x80\x01",
		1 << 63: strings.Repeat("\x80", 9) + "\x01", math.MaxUint64: strings.Repeat("\xff", 9) + "\x01",
		1<<63 - 1: strings.Repeat("\xff", 8) + "\x7f",
	} {
		if s := num.Pack(n); s != want {
			t.Errorf("Pack(%d): %x, want %x", n, s, want)
		}
	}
}

// P1.2
func TestUnpackRefuses(t *testing.T) {
	for s, want := range map[string]api.Errno{
		"": api.ErrShort, "\x80": api.ErrShort, strings.Repeat("\xff", 9): api.ErrShort, strings.Repeat("\x80", 9): api.ErrShort,
		"\x80\x00": api.ErrForm, "\xac\x82\x00": api.ErrForm, "\x80\x80\x00\x01": api.ErrForm,
		strings.Repeat("\x80", 9) + "\x00":        api.ErrForm,
		strings.Repeat("\xff", 9) + "\x02":        api.ErrForm,
		strings.Repeat("\xff", 9) + "\x7f":        api.ErrForm,
		strings.Repeat("\xff", 10):                api.ErrForm,
		strings.Repeat("\xff", 10) + "\x01":       api.ErrForm,
		strings.Repeat("\x80", 1000):              api.ErrForm,
		strings.Repeat("\x80", 1000) + "\x01rest": api.ErrForm,
	} {
		if n, k, e := num.Unpack(s); n != 0 || k != 0 || e != want {
			t.Errorf("Unpack(%x): %d, %d, %d, want %d", s, n, k, e, want)
		}
	}
}

// P1.3
func TestFold(t *testing.T) {
	for n, want := range map[int64]uint64{
		0: 0, -1: 1, 1: 2, -2: 3, 2: 4, -3: 5, math.MaxInt64: math.MaxUint64 - 1, math.MinInt64: math.MaxUint64,
	} {
		if m := num.Fold(n); m != want {
			t.Errorf("Fold(%d): %d, want %d", n, m, want)
		}
		if m := num.Unfold(want); m != n {
			t.Errorf("Unfold(%d): %d, want %d", want, m, n)
		}
	}
}

// P1.4
func TestWhatIsLaidIsReadAsItWas(t *testing.T) {
	for _, n := range edges() {
		for wide := 1; wide <= api.MaxWide; wide++ {
			s, e := num.Put(n, wide)
			if e != api.OK {
				continue
			}
			if m, e := num.Get(s); len(s) != wide || m != n || e != api.OK {
				t.Fatalf("Get(Put(%d, %d)): %d, %d", n, wide, m, e)
			}
		}
		s := num.Pack(n)
		for _, behind := range []string{"", "\x00", "\x80", "\xff\xff"} {
			if m, k, e := num.Unpack(s + behind); m != n || k != len(s) || e != api.OK {
				t.Fatalf("Unpack(Pack(%d)): %d, %d, %d", n, m, k, e)
			}
		}
		if m := num.Fold(num.Unfold(n)); m != n {
			t.Fatalf("Fold(Unfold(%d)): %d", n, m)
		}
		for i := range s {
			if _, _, e := num.Unpack(s[:i]); e != api.ErrShort {
				t.Fatalf("packed octets of %d begin with others: %d", n, e)
			}
		}
	}
}
