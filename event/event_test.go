package event_test

import (
	"fmt"
	"math"
	"math/rand"
	"slices"
	"strings"
	"testing"

	"tryst/api"
	"tryst/event"
)

func number(n int64) api.Value { return api.Value{Num: true, N: n} }

func text(s string) api.Value { return api.Value{S: s} }

// plain is an event that may be.
func plain() api.Event {
	return api.Event{Topic: "a.b", Producer: "p", Seq: 300, L: []api.Field{{Name: "k", V: number(1)}, {Name: "x", V: text("hi")}}}
}

const plainOctets = "\x03a.b\x01p\xac\x02\x02\x01k\x01\x02\x01x\x02\x02hi"

// greatest is the event with the most octets.
func greatest() api.Event {
	e := api.Event{Topic: strings.Repeat("t", 40), Producer: strings.Repeat("p", 16), Seq: math.MaxUint64}
	for i := range 8 {
		e.L = append(e.L, api.Field{Name: fmt.Sprint(strings.Repeat("f", 15), i), V: text(strings.Repeat("v", 60))})
	}
	return e
}

// mayNot are events that may not be, and what is wrong with them.
func mayNot() map[string]api.Event {
	out := map[string]api.Event{}
	put := func(what string, change func(e *api.Event)) {
		e := plain()
		change(&e)
		out[what] = e
	}
	put("no topic", func(e *api.Event) { e.Topic = "" })
	put("a glob", func(e *api.Event) { e.Topic = "a.*" })
	put("a long topic", func(e *api.Event) { e.Topic = strings.Repeat("t", 41) })
	put("no producer", func(e *api.Event) { e.Producer = "" })
	put("a producer of two parts", func(e *api.Event) { e.Producer = "a.b" })
	put("a long producer", func(e *api.Event) { e.Producer = strings.Repeat("p", 17) })
	put("no number", func(e *api.Event) { e.Seq = 0 })
	put("twice a name", func(e *api.Event) { e.L[1].Name = "k" })
	put("falling names", func(e *api.Event) { e.L[1].Name = "j" })
	put("a bad name", func(e *api.Event) { e.L[0].Name = "K" })
	put("a wild name", func(e *api.Event) { e.L[0].Name = "*" })
	put("an empty name", func(e *api.Event) { e.L[0].Name = "" })
	put("a long name", func(e *api.Event) { e.L[1].Name = strings.Repeat("x", 17) })
	put("a long value", func(e *api.Event) { e.L[1].V.S = strings.Repeat("x", 61) })
	put("two values", func(e *api.Event) { e.L[0].V.S = "x" })
	put("nine fields", func(e *api.Event) {
		*e = greatest()
		e.L = append(e.L, api.Field{Name: "g"})
	})
	return out
}

func TestMay(t *testing.T) { // P4.1
	for _, e := range []api.Event{plain(), greatest(), {Topic: "a", Producer: "_", Seq: 1}, {Topic: "a", Producer: "0", Seq: 1, L: []api.Field{{Name: "a"}}}} {
		if !event.May(e) {
			t.Errorf("May(%v) is false", e)
		}
	}
	for what, e := range mayNot() {
		if event.May(e) {
			t.Errorf("May of %s is true", what)
		}
	}
}

func TestField(t *testing.T) { // P4.1
	for s, want := range map[string]bool{
		"a": true, "a_9": true, strings.Repeat("a", 16): true,
		strings.Repeat("a", 17): false, "": false, "a.b": false, "*": false, "**": false, "A": false, "a ": false, ".": false, "\xff": false,
	} {
		if event.Field(s) != want {
			t.Errorf("Field(%q) is not %t", s, want)
		}
	}
}

func TestSame(t *testing.T) { // P4.1
	empty := api.Event{Topic: "a", Producer: "p", Seq: 1, L: []api.Field{}}
	none := api.Event{Topic: "a", Producer: "p", Seq: 1}
	if !event.Same(plain(), plain()) || !event.Same(empty, none) || event.Same(plain(), none) {
		t.Error("Same")
	}
	for _, change := range []func(e *api.Event){
		func(e *api.Event) { e.Topic = "a.c" }, func(e *api.Event) { e.Producer = "q" }, func(e *api.Event) { e.Seq++ },
		func(e *api.Event) { e.L = e.L[:1] }, func(e *api.Event) { e.L[0].Name = "l" }, func(e *api.Event) { e.L[1].V = text("ho") }, func(e *api.Event) { e.L[0].V = api.Value{N: 1} },
	} {
		e := plain()
		change(&e)
		if event.Same(plain(), e) || event.Same(e, plain()) {
			t.Errorf("Same as %v", e)
		}
	}
}

func TestGetIsOfTheFirst(t *testing.T) { // P4.1
	e := api.Event{L: []api.Field{{Name: "b", V: number(1)}, {Name: "a", V: number(2)}, {Name: "b", V: number(3)}, {Name: "", V: text("x")}}}
	for name, want := range map[string]api.Value{"b": number(1), "a": number(2), "": text("x")} {
		if v, there := event.Get(e, name); v != want || !there {
			t.Errorf("Get(%q): %v, %t", name, v, there)
		}
	}
	if v, there := event.Get(e, "c"); v != (api.Value{}) || there {
		t.Errorf("Get of none: %v, %t", v, there)
	}
}

func TestPut(t *testing.T) { // P4.1
	names := func(e api.Event) string {
		out := ""
		for _, f := range e.L {
			out += fmt.Sprint(f.Name, f.V.N, " ")
		}
		return out
	}
	l := append(make([]api.Field, 0, 9), api.Field{Name: "b", V: number(1)}, api.Field{Name: "d", V: number(2)}, api.Field{Name: "c", V: number(3)}, api.Field{Name: "b", V: number(4)})
	for name, want := range map[string]string{
		"a": "a9 b1 d2 c3 b4 ", "b": "b9 d2 c3 b4 ", "c": "b1 d2 c9 b4 ", "ba": "b1 ba9 d2 c3 b4 ", "d": "b1 d9 c3 b4 ", "e": "b1 d2 c3 b4 e9 ",
	} {
		e := api.Event{Topic: "t", Producer: "p", Seq: 3, L: l}
		got := event.Put(e, name, number(9))
		if names(got) != want {
			t.Errorf("Put(%q): %s", name, names(got))
		}
		if v, there := event.Get(got, name); v != number(9) || !there || got.Topic != "t" || got.Producer != "p" || got.Seq != 3 {
			t.Errorf("Get of what was put: %v, %t of %v", v, there, got)
		}
		if names(e) != "b1 d2 c3 b4 " || !slices.Equal(l[:5][4:], []api.Field{{}}) {
			t.Fatalf("Put changed what was handed in: %v", l[:5])
		}
	}
	if got := event.Put(api.Event{}, "", api.Value{N: 5, S: "x"}); !slices.Equal(got.L, []api.Field{{V: api.Value{N: 5, S: "x"}}}) {
		t.Errorf("Put of whatever: %v", got)
	}
}

func TestLay(t *testing.T) { // P4.2
	if s, e := event.Lay(plain()); s != plainOctets || e != api.OK {
		t.Errorf("Lay: %q, %d", s, e)
	}
	if s, e := event.Lay(api.Event{Topic: "a", Producer: "b", Seq: 1}); s != "\x01a\x01b\x01\x00" || e != api.OK {
		t.Errorf("Lay without fields: %q, %d", s, e)
	}
	for what, bad := range mayNot() {
		if s, e := event.Lay(bad); s != "" || e != api.ErrArg {
			t.Errorf("Lay of %s: %q, %d", what, s, e)
		}
	}
}

// layAny lays an event whether it may be or not (with values that may be, and no length of 128 or more).
func layAny(e api.Event) string {
	short := func(s string) string { return string([]byte{byte(len(s))}) + s }
	out := short(e.Topic) + short(e.Producer)
	for e.Seq > 127 {
		out += string([]byte{byte(e.Seq&127) | 128})
		e.Seq >>= 7
	}
	out += string([]byte{byte(e.Seq), byte(len(e.L))})
	for _, f := range e.L {
		if f.V.Num {
			out += short(f.Name) + "\x01" + string([]byte{byte(2 * f.V.N)})
		} else {
			out += short(f.Name) + "\x02" + short(f.V.S)
		}
	}
	return out
}

func TestTakeRefuses(t *testing.T) { // P4.2
	tooLong := []string{"a long topic", "a long producer", "a long name", "a long value", "nine fields"}
	for what, bad := range mayNot() {
		if what == "two values" {
			continue // they have no octets
		}
		s := layAny(bad)
		if got, n, e := event.Take(s); !event.Same(got, api.Event{}) || n != 0 || e != api.ErrForm {
			t.Errorf("Take of %s: %v, %d, %d", what, got, n, e)
		}
		cut := api.ErrShort
		if slices.Contains(tooLong, what) { // its length is wrong where it stands
			cut = api.ErrForm
		}
		if got, n, e := event.Take(s[:len(s)-1]); !event.Same(got, api.Event{}) || n != 0 || e != cut {
			t.Errorf("Take of %s, cut: %v, %d, %d, want %d", what, got, n, e, cut)
		}
	}
	for s, want := range map[string]api.Errno{
		"": api.ErrShort, "\x01a\x01b\x01": api.ErrShort, "\x01A": api.ErrShort, "\x01A\x80": api.ErrShort, "\x00": api.ErrShort, "\x80": api.ErrShort, "\xff": api.ErrShort,
		"\x81\x00a": api.ErrForm, "\x01A\x80\x00": api.ErrForm, "\x01a\x01b\x81\x00": api.ErrForm, "\x01a\x01b\x01\x80\x00": api.ErrForm,
		"\x01a\x01b\x01\x01\x01k\x03":             api.ErrForm,
		"\x01A\x01b\x01\x01\x01k\x03\x80\x00":     api.ErrForm,
		"\x01a\x01b\x01\x02\x01k\x01\x00":         api.ErrShort,
		"\x01a\x01b\x01\x02\x01k\x01\x00\x80\x00": api.ErrForm,
	} {
		if got, n, e := event.Take(s); !event.Same(got, api.Event{}) || n != 0 || e != want {
			t.Errorf("Take(%.60q): %v, %d, %d, want %d", s, got, n, e, want)
		}
	}
}

func TestTakeOfLengthsThatNoEventHas(t *testing.T) { // P4.2
	most := strings.Repeat("\xff", 9) + "\x01"
	for s, want := range map[string]api.Errno{
		"\x28": api.ErrShort, "\x29": api.ErrForm, "u": api.ErrForm, "1": api.ErrForm, "\x7fa": api.ErrForm, "\x80\x01": api.ErrForm, most: api.ErrForm,
		"\x29" + strings.Repeat("a", 41): api.ErrForm, "\x28" + strings.Repeat("a", 39): api.ErrShort,
		"\x01a\x10": api.ErrShort, "\x01a\x11": api.ErrForm, "\x01a" + most: api.ErrForm, "\x01a\x11" + strings.Repeat("p", 16): api.ErrForm,
		"\x01a\x01b\x01\x08": api.ErrShort, "\x01a\x01b\x01\x09": api.ErrForm, "\x01a\x01b\x01" + most: api.ErrForm,
		"\x01a\x01b\x01\x01\x10": api.ErrShort, "\x01a\x01b\x01\x01\x11": api.ErrForm, "\x01a\x01b\x01\x01" + most: api.ErrForm,
		"\x01a\x01b\x01\x01\x01k\x02\x3c": api.ErrShort, "\x01a\x01b\x01\x01\x01k\x02\x3d": api.ErrForm,
		"\x01A\x01B\x00\x08": api.ErrShort, "\x01A\x01B\x00\x09": api.ErrForm, "\x00\x00\x00\x01\x00": api.ErrShort, // what is no name's counts behind all
		"\xa0\x06" + strings.Repeat("a", 800) + "\x01b\x01\x00": api.ErrForm,
	} {
		if got, n, e := event.Take(s); !event.Same(got, api.Event{}) || n != 0 || e != want {
			t.Errorf("Take(%.60q): %v, %d, %d, want %d", s, got, n, e, want)
		}
	}
	for at, octet := range map[int]byte{0: 41, 4: 17, 8: 9, 9: 17, 13: 17} {
		s := []byte(plainOctets)
		s[at] = octet
		for cut := at + 1; cut <= len(s); cut++ {
			if _, _, e := event.Take(string(s[:cut])); e != api.ErrForm {
				t.Errorf("Take of %d octets, of which octet %d is %d: %d", cut, at, octet, e)
			}
		}
	}
}

func TestWhatIsLaidIsTakenAsItWas(t *testing.T) { // P4.3
	r := rand.New(rand.NewSource(4))
	events := []api.Event{plain(), greatest()}
	for range 500 {
		e := api.Event{Topic: "t.u", Producer: "p", Seq: r.Uint64()>>r.Intn(64) + 1}
		for range r.Intn(9) {
			e = event.Put(e, fmt.Sprint("f", r.Intn(20)), number(r.Int63()-r.Int63()))
		}
		events = append(events, e)
	}
	for _, e := range events {
		s, errno := event.Lay(e)
		if errno != api.OK || len(s) > api.MaxOctets {
			t.Fatalf("Lay(%v): %d octets, %d", e, len(s), errno)
		}
		for _, behind := range []string{"", "\x00", s, strings.Repeat("\xff", 900)} {
			if got, n, errno := event.Take(s + behind); !event.Same(got, e) || n != len(s) || errno != api.OK {
				t.Fatalf("Take(Lay(%v)): %v, %d, %d", e, got, n, errno)
			}
		}
		for cut := range s {
			if _, _, errno := event.Take(s[:cut]); errno != api.ErrShort {
				t.Fatalf("Take of %d octets of Lay(%v): %d", cut, e, errno)
			}
		}
	}
}
