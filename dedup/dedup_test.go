package dedup_test

import (
	"fmt"
	"math"
	"math/rand"
	"slices"
	"strings"
	"testing"

	"tryst/api"
	"tryst/dedup"
)

func last(producer string, seq uint64, offset int) api.Last {
	return api.Last{Producer: producer, Seq: seq, Offset: offset}
}

func some() []api.Last {
	return []api.Last{last("b", 1, 0), last("d", 7, 40), last("e", math.MaxUint64, math.MaxInt)}
}

// full is as many producers as can be.
func full() []api.Last {
	var l []api.Last
	for i := range api.MaxProducers {
		l = append(l, last(fmt.Sprintf("p%02d", i), 1, 0))
	}
	return l
}

func TestCheck(t *testing.T) { // P13.1
	for _, l := range [][]api.Last{nil, {}, some(), full(), {last(strings.Repeat("x", 16), 1, 0)}} {
		if e := dedup.Check(l); e != api.OK {
			t.Errorf("Check(%v): %d", l, e)
		}
	}
	for _, l := range [][]api.Last{
		append(full(), last("z", 1, 0)), {last("", 1, 0)}, {last("a.b", 1, 0)}, {last(strings.Repeat("x", 17), 1, 0)}, {last("a", 0, 0)}, {last("a", 1, -1)}, {last("a", 1, math.MinInt)},
		{last("b", 1, 0), last("a", 1, 0)}, {last("a", 1, 0), last("a", 2, 0)},
	} {
		if e := dedup.Check(l); e != api.ErrArg {
			t.Errorf("Check(%v): %d", l, e)
		}
		if n, e := dedup.Ask(l, "q", 1); n != 0 || e != api.ErrArg {
			t.Errorf("Ask of what may not be: %d, %d", n, e)
		}
		if got, e := dedup.Take(l, last("q", 1, 0)); got != nil || e != api.ErrArg {
			t.Errorf("Take of what may not be: %v, %d", got, e)
		}
	}
}

func TestFind(t *testing.T) { // P13.1
	l := append(some(), last("b", 9, 9), last("", 5, 5))
	for producer, want := range map[string]api.Last{"b": last("b", 1, 0), "d": last("d", 7, 40), "": last("", 5, 5)} {
		if x, there := dedup.Find(l, producer); x != want || !there {
			t.Errorf("Find(%q): %v, %t", producer, x, there)
		}
	}
	if x, there := dedup.Find(l, "c"); x != (api.Last{}) || there {
		t.Errorf("Find of none: %v, %t", x, there)
	}
}

func TestAsk(t *testing.T) { // P13.2
	for _, c := range []struct {
		producer string
		seq      uint64
		n        int
		want     api.Errno
	}{
		{"a", 1, 0, api.OK}, {"a", 2, 0, api.ErrGap}, {"a", math.MaxUint64, 0, api.ErrGap}, {"a", 0, 0, api.ErrArg}, {"d", 0, 0, api.ErrArg}, {"", 1, 0, api.ErrArg}, {"A", 1, 0, api.ErrArg}, {"a.b", 1, 0, api.ErrArg},
		{"d", 7, 40, api.ErrThere}, {"d", 6, 0, api.ErrLate}, {"d", 1, 0, api.ErrLate}, {"d", 8, 0, api.OK}, {"d", 9, 0, api.ErrGap}, {"d", math.MaxUint64, 0, api.ErrGap},
		{"b", 1, 0, api.ErrThere}, {"b", 2, 0, api.OK}, {"e", math.MaxUint64, math.MaxInt, api.ErrThere}, {"e", 1, 0, api.ErrLate}, {"e", 0, 0, api.ErrArg},
	} {
		if n, e := dedup.Ask(some(), c.producer, c.seq); n != c.n || e != c.want {
			t.Errorf("Ask(%q, %d): %d, %d", c.producer, c.seq, n, e)
		}
	}
}

func TestTake(t *testing.T) { // P13.3
	s := some()
	for _, c := range []struct {
		x    api.Last
		want []api.Last
	}{
		{last("a", 1, 3), []api.Last{last("a", 1, 3), s[0], s[1], s[2]}}, {last("c", 1, 0), []api.Last{s[0], last("c", 1, 0), s[1], s[2]}}, {last("f", 1, 0), []api.Last{s[0], s[1], s[2], last("f", 1, 0)}},
		{last("d", 8, 2), []api.Last{s[0], last("d", 8, 2), s[2]}}, {last("b", 2, math.MaxInt), []api.Last{last("b", 2, math.MaxInt), s[1], s[2]}},
	} {
		if l, e := dedup.Take(s, c.x); !slices.Equal(l, c.want) || e != api.OK {
			t.Errorf("Take(%v): %v, %d", c.x, l, e)
		}
		if !slices.Equal(s, some()) {
			t.Fatalf("Take(%v) changed what was handed in", c.x)
		}
	}
	for _, c := range []struct {
		l    []api.Last
		x    api.Last
		want api.Errno
	}{
		{s, last("d", 7, 40), api.ErrThere}, {s, last("d", 6, 0), api.ErrLate}, {s, last("d", 9, 0), api.ErrGap}, {s, last("a", 2, 0), api.ErrGap}, {s, last("A", 1, 0), api.ErrArg}, {s, last("a", 0, 0), api.ErrArg},
		{s, last("a", 1, -1), api.ErrArg}, {s, last("d", 7, -1), api.ErrThere}, {s, last("d", 8, math.MinInt), api.ErrArg},
		{full(), last("a", 1, 0), api.ErrFull}, {full(), last("a", 2, 0), api.ErrGap}, {full(), last("a", 1, -1), api.ErrArg},
	} {
		if l, e := dedup.Take(c.l, c.x); l != nil || e != c.want {
			t.Errorf("Take(%v): %v, %d", c.x, l, e)
		}
	}
	if l, e := dedup.Take(full(), last("p49", 2, 5)); len(l) != 50 || l[49] != last("p49", 2, 5) || e != api.OK {
		t.Errorf("Take of a producer that there is, among many: %d", e)
	}
}

func TestEachNumberIsTakenOnceInOrder(t *testing.T) { // P13.4
	r := rand.New(rand.NewSource(15))
	var l []api.Last
	taken := map[string]uint64{}
	for i := range 3000 {
		producer := fmt.Sprintf("p%d", r.Intn(10))
		seq := uint64(max(0, int(taken[producer])-2+r.Intn(6)))
		got, e := dedup.Take(l, last(producer, seq, i))
		if (e == api.OK) != (seq == taken[producer]+1) {
			t.Fatalf("Take of %d behind %d: %d", seq, taken[producer], e)
		}
		if e == api.OK {
			l, taken[producer] = got, seq
			if n, e := dedup.Ask(l, producer, seq); n != i || e != api.ErrThere || dedup.Check(l) != api.OK {
				t.Fatalf("Ask of what was taken: %d, %d", n, e)
			}
		}
	}
}
