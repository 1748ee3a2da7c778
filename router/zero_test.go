package router

import (
	"strings"
	"testing"

	"tryst/api"
	"tryst/keep"
	"tryst/route"
)

func TestNoAnswerHangsOnWhatWasMadeOnce(t *testing.T) { // P21.1, R4
	h := api.Halves{Log: 1, Text: 1}
	zero := strings.Repeat("\x00", 8)
	first, e := New(h)
	if e != api.OK || octetsMadeOnce() != zero || octetsOfZero() != zero {
		t.Fatalf("New: %d, made once %q, made anew %q", e, octetsMadeOnce(), octetsOfZero())
	}
	defer func(was string) { zeroOctets = was }(zeroOctets)
	for _, octets := range []string{"", "abc", strings.Repeat("a", 65)} {
		zeroOctets = octets
		if octetsMadeOnce() != octets {
			t.Errorf("made twice: %q", octetsMadeOnce())
		}
		x, e := New(h)
		if e != api.OK || !route.Same(x.State(), api.Router{}) {
			t.Fatalf("New beside %q: %d", octets, e)
		}
		if k, e := keep.Open(x.Drive(), h); e != api.OK || k.Text() != zero {
			t.Errorf("New beside %q keeps %q, %d", octets, k.Text(), e)
		}
		if y, e := Open(first.Drive(), h); e != api.OK || !route.Same(y.State(), api.Router{}) {
			t.Errorf("Open beside %q: %d", octets, e)
		}
	}
}
