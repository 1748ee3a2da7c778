package val_test

import (
	"math"
	"math/rand"
	"strings"
	"testing"

	"tryst/api"
	"tryst/val"
)

func number(n int64) api.Value { return api.Value{Num: true, N: n} }

func text(s string) api.Value { return api.Value{S: s} }

var sixty = strings.Repeat("x", 60)

func TestMay(t *testing.T) { // P3.1
	for _, v := range []api.Value{{}, number(0), number(math.MinInt64), number(math.MaxInt64), text("a"), text(sixty), text("\x00\xff\"\\")} {
		if !val.May(v) {
			t.Errorf("May(%v) is false", v)
		}
	}
	for _, v := range []api.Value{text(sixty + "x"), {Num: true, S: "x"}, {N: 1}, {N: -1, S: "x"}, {Num: true, N: 3, S: "3"}} {
		if val.May(v) {
			t.Errorf("May(%v) is true", v)
		}
	}
}

func TestOrder(t *testing.T) { // P3.1
	rising := []api.Value{
		number(math.MinInt64), number(-2), number(-1), number(0), number(1), number(10), number(math.MaxInt64),
		text(""), text("\x00"), text("1"), text("10"), text("9"), text("a"), text("a\x00"), text("b"), text("\xff"),
	}
	for i, a := range rising {
		for j, b := range rising {
			want := 0
			if i < j {
				want = -1
			} else if i > j {
				want = 1
			}
			if got := val.Order(a, b); got != want {
				t.Errorf("Order(%v, %v): %d, want %d", a, b, got, want)
			}
		}
	}
	if val.Order(api.Value{Num: true, N: 1, S: "b"}, api.Value{Num: true, N: 1, S: "a"}) != 0 {
		t.Error("numbers are not ordered by N alone")
	}
	if val.Order(api.Value{N: 2, S: "a"}, api.Value{N: 1, S: "a"}) != 0 || val.Order(api.Value{N: 2, S: "a"}, api.Value{N: 1, S: "b"}) != -1 {
		t.Error("texts are not ordered by S alone")
	}
}

func TestLay(t *testing.T) { // P3.2
	for _, c := range []struct {
		v    api.Value
		want string
	}{
		{number(1), "\x01\x02"}, {number(0), "\x01\x00"}, {number(-1), "\x01\x01"}, {number(150), "\x01\xac\x02"},
		{number(math.MinInt64), "\x01" + strings.Repeat("\xff", 9) + "\x01"},
		{text(""), "\x02\x00"}, {text("ab"), "\x02\x02ab"}, {text(sixty), "\x02\x3c" + sixty},
	} {
		if s, e := val.Lay(c.v); s != c.want || e != api.OK {
			t.Errorf("Lay(%v): %x, %d", c.v, s, e)
		}
		for _, behind := range []string{"", "\x00", "behind"} {
			if v, n, e := val.Take(c.want + behind); v != c.v || n != len(c.want) || e != api.OK {
				t.Errorf("Take(%x): %v, %d, %d", c.want+behind, v, n, e)
			}
		}
	}
	for _, v := range []api.Value{text(sixty + "x"), {Num: true, S: "x"}, {N: 1}} {
		if s, e := val.Lay(v); s != "" || e != api.ErrArg {
			t.Errorf("Lay(%v): %x, %d", v, s, e)
		}
	}
}

func TestTakeRefuses(t *testing.T) { // P3.2
	for s, want := range map[string]api.Errno{
		"": api.ErrShort, "\x01": api.ErrShort, "\x01\x80": api.ErrShort, "\x02": api.ErrShort, "\x02\x01": api.ErrShort, "\x02\x03ab": api.ErrShort,
		"\x02\x3c" + sixty[1:]: api.ErrShort,
		"\x00":                 api.ErrForm, "\x03": api.ErrForm, "\x00\x00": api.ErrForm, "\xff": api.ErrForm, "x": api.ErrForm,
		"\x01\x80\x00": api.ErrForm, "\x02\x80\x00": api.ErrForm, "\x01" + strings.Repeat("\xff", 10): api.ErrForm,
		"\x02\x3d" + sixty + "x": api.ErrForm, "\x02\xff\x01" + strings.Repeat("x", 255): api.ErrForm,
		"\x02" + strings.Repeat("\xff", 9) + "\x01": api.ErrForm,
	} {
		if v, n, e := val.Take(s); v != (api.Value{}) || n != 0 || e != want {
			t.Errorf("Take(%x): %v, %d, %d, want %d", s, v, n, e, want)
		}
	}
}

func TestWrite(t *testing.T) { // P3.3
	for _, c := range []struct {
		v    api.Value
		want string
	}{
		{number(-5), "-5"}, {number(0), "0"}, {number(120), "120"}, {number(math.MaxInt64), "9223372036854775807"}, {number(math.MinInt64), "-9223372036854775808"},
		{text(`a"b`), `"a\"b"`}, {text(""), `""`}, {text(`\`), `"\\"`}, {text("\n\x00\xff'"), "\"\n\x00\xff'\""}, {text(strings.Repeat(`"`, 60)), `"` + strings.Repeat(`\"`, 60) + `"`},
	} {
		if s, e := val.Write(c.v); s != c.want || e != api.OK {
			t.Errorf("Write(%v): %q, %d", c.v, s, e)
		}
		for _, behind := range []string{"", ")", " ", "\"", "\\", "-"} {
			if v, n, e := val.Read(c.want + behind); v != c.v || n != len(c.want) || e != api.OK {
				t.Errorf("Read(%q): %v, %d, %d", c.want+behind, v, n, e)
			}
		}
	}
	for _, v := range []api.Value{text(sixty + "x"), {Num: true, S: "x"}, {N: 1}} {
		if s, e := val.Write(v); s != "" || e != api.ErrArg {
			t.Errorf("Write(%v): %q, %d", v, s, e)
		}
	}
}

func TestReadTakesAsManyOctetsAsCanBe(t *testing.T) { // P3.3
	for _, c := range []struct {
		s    string
		want int64
		n    int
	}{
		{"05", 0, 1}, {"00", 0, 1}, {"0-1", 0, 1}, {"12a", 12, 2}, {"1-2", 1, 1}, {"-10.5", -10, 3},
		{"9223372036854775807", math.MaxInt64, 19}, {"9223372036854775808", 922337203685477580, 18}, {"92233720368547758070", math.MaxInt64, 19},
		{"-9223372036854775808", math.MinInt64, 20}, {"-9223372036854775809", -922337203685477580, 19}, {"-92233720368547758080", math.MinInt64, 20},
		{strings.Repeat("9", 100), 999999999999999999, 18},
	} {
		if v, n, e := val.Read(c.s); v != number(c.want) || n != c.n || e != api.OK {
			t.Errorf("Read(%q): %v, %d, %d", c.s, v, n, e)
		}
	}
}

func TestReadRefuses(t *testing.T) { // P3.3
	for _, s := range []string{
		"", "-", "-0", "-01", "--1", "+1", " 1", "a", "x1", `"`, `"a`, `"a\`, `"a\"`, `"\a"`, `"a\n"`, `"\`, "'a'",
		`"` + sixty + `x"`, `"` + sixty, `"` + sixty + `\""`, ")", "\\", "\xff", "٣",
	} {
		if v, n, e := val.Read(s); v != (api.Value{}) || n != 0 || e != api.ErrForm {
			t.Errorf("Read(%q): %v, %d, %d", s, v, n, e)
		}
	}
}

func TestWhatIsLaidAndWrittenIsReadAsItWas(t *testing.T) { // P3.4
	r := rand.New(rand.NewSource(3))
	signs := []string{"a", `"`, `\`, "\x00", "\xff", "1", "é"}
	for i := range 5000 {
		v := number(int64(r.Uint64()) >> (i % 64))
		if i%2 == 1 {
			s := ""
			for range r.Intn(31) {
				s += signs[r.Intn(len(signs))]
			}
			v = text(s)
		}
		laid, _ := val.Lay(v)
		if got, n, e := val.Take(laid + "\x02\x01\x80"); got != v || n != len(laid) || e != api.OK {
			t.Fatalf("Take(Lay(%v)): %v, %d, %d", v, got, n, e)
		}
		for cut := range laid {
			if _, _, e := val.Take(laid[:cut]); e != api.ErrShort {
				t.Fatalf("Take of %d octets of Lay(%v): %d", cut, v, e)
			}
		}
		written, _ := val.Write(v)
		if got, n, e := val.Read(written + " and"); got != v || n != len(written) || e != api.OK {
			t.Fatalf("Read(Write(%v)): %v, %d, %d", v, got, n, e)
		}
	}
}
