package outbox_test

import (
	"math"
	"math/rand"
	"slices"
	"strings"
	"testing"

	"tryst/api"
	"tryst/outbox"
)

func out(id uint64, tries, due int) api.Out {
	return api.Out{Id: id, Sub: "s", Ids: []uint64{id, 7}, Tries: tries, Due: due}
}

func some() []api.Out {
	return []api.Out{out(2, 0, 30), out(5, 4, 10), out(6, 1, 10), out(math.MaxUint64, 3, api.MaxTime)}
}

// full is as many outputs as can be, of Ids 2, 4, ..
func full() []api.Out {
	var l []api.Out
	for i := range api.MaxOut {
		l = append(l, out(uint64(2*i+2), 0, 5))
	}
	return l
}

// mayNot are outputs of which none may be.
func mayNot() map[string]api.Out {
	res := map[string]api.Out{}
	put := func(what string, change func(x *api.Out)) {
		x := out(3, 0, 0)
		change(&x)
		res[what] = x
	}
	put("Id 0", func(x *api.Out) { x.Id = 0 })
	put("no Sub", func(x *api.Out) { x.Sub = "" })
	put("a bad Sub", func(x *api.Out) { x.Sub = "a.b" })
	put("a long Sub", func(x *api.Out) { x.Sub = strings.Repeat("s", 17) })
	put("no Ids", func(x *api.Out) { x.Ids = nil })
	put("31 Ids", func(x *api.Out) { x.Ids = make([]uint64, 31) })
	put("Tries below 0", func(x *api.Out) { x.Tries = -1 })
	put("5 Tries", func(x *api.Out) { x.Tries = 5 })
	put("many Tries", func(x *api.Out) { x.Tries = math.MaxInt })
	put("Due below 0", func(x *api.Out) { x.Due = -1 })
	put("Due too great", func(x *api.Out) { x.Due = api.MaxTime + 1 })
	return res
}

func TestCheck(t *testing.T) { // P15.1
	for _, l := range [][]api.Out{nil, {}, some(), full(), {{Id: 1, Sub: "s", Ids: make([]uint64, 30), Tries: 4, Due: api.MaxTime}}, {{Id: 1, Sub: "s", Ids: make([]uint64, 1)}}} {
		if e := outbox.Check(l); e != api.OK {
			t.Errorf("Check(%v): %d", l, e)
		}
	}
	bad := [][]api.Out{append(full(), out(999, 0, 0)), {out(2, 0, 0), out(1, 0, 0)}, {out(2, 0, 0), out(2, 0, 0)}}
	for _, x := range mayNot() {
		bad = append(bad, []api.Out{out(1, 0, 0), x})
	}
	for _, l := range bad {
		if e := outbox.Check(l); e != api.ErrArg {
			t.Errorf("Check(%v): %d", l, e)
		}
		if got, e := outbox.Add(l, out(math.MaxUint64, 0, 0)); got != nil || e != api.ErrArg {
			t.Errorf("Add to what may not be: %v, %d", got, e)
		}
		if x, e := outbox.Next(l, 99); !outbox.Same([]api.Out{x}, []api.Out{{}}) || e != api.ErrArg {
			t.Errorf("Next of what may not be: %v, %d", x, e)
		}
		if got, e := outbox.Ack(l, 1); got != nil || e != api.ErrArg {
			t.Errorf("Ack of what may not be: %v, %d", got, e)
		}
		if got, up, e := outbox.Nack(l, 1, 1); got != nil || up || e != api.ErrArg {
			t.Errorf("Nack of what may not be: %v, %d", got, e)
		}
		if got, e := outbox.Again(l, out(1000, 0, 0), 1); got != nil || e != api.ErrArg {
			t.Errorf("Again of what may not be: %v, %d", got, e)
		}
	}
}

func TestFindAndSame(t *testing.T) { // P15.1
	l := append(some(), out(5, 0, 0), out(0, 0, 0))
	for id, want := range map[uint64]int{2: 0, 5: 1, math.MaxUint64: 3, 0: 5, 3: -1} {
		if got := outbox.Find(l, id); got != want {
			t.Errorf("Find(%d): %d", id, got)
		}
	}
	if !outbox.Same(some(), some()) || !outbox.Same(nil, []api.Out{}) || !outbox.Same([]api.Out{{}}, []api.Out{{Ids: []uint64{}}}) || outbox.Same(some(), some()[:3]) || outbox.Same(nil, some()) {
		t.Error("Same")
	}
	for _, change := range []func(x *api.Out){
		func(x *api.Out) { x.Id = 3 }, func(x *api.Out) { x.Sub = "t" }, func(x *api.Out) { x.Ids[1] = 8 }, func(x *api.Out) { x.Ids = x.Ids[:1] }, func(x *api.Out) { x.Tries = 1 }, func(x *api.Out) { x.Due = 31 },
	} {
		l := some()
		change(&l[0])
		if outbox.Same(some(), l) || outbox.Same(l, some()) {
			t.Errorf("Same as %v", l)
		}
	}
}

func TestAdd(t *testing.T) { // P15.2
	s := some()[:3]
	got, e := outbox.Add(s, out(7, 4, 3))
	if !outbox.Same(got, []api.Out{s[0], s[1], s[2], out(7, 4, 3)}) || e != api.OK || !outbox.Same(s, some()[:3]) {
		t.Errorf("Add: %v, %d", got, e)
	}
	if got, e := outbox.Add(nil, out(1, 0, 0)); len(got) != 1 || e != api.OK {
		t.Errorf("Add to nothing: %v, %d", got, e)
	}
	if got, e := outbox.Add(full()[:99], out(math.MaxUint64, 0, 0)); len(got) != 100 || e != api.OK {
		t.Errorf("Add of the hundredth: %d", e)
	}
	for _, c := range []struct {
		l    []api.Out
		x    api.Out
		want api.Errno
	}{
		{s, out(6, 0, 0), api.ErrLate}, {s, out(1, 0, 0), api.ErrLate}, {s, out(4, 0, 0), api.ErrLate}, {some(), out(math.MaxUint64, 0, 0), api.ErrLate}, {s[:1], out(1, 0, 0), api.ErrLate}, {s[:1], out(2, 0, 0), api.ErrLate}, {full(), out(200, 0, 0), api.ErrLate}, {full(), out(201, 0, 0), api.ErrFull}, {full(), out(201, 5, 0), api.ErrArg}, {s, out(1, -1, 0), api.ErrArg},
	} {
		if got, e := outbox.Add(c.l, c.x); got != nil || e != c.want {
			t.Errorf("Add(%v): %v, %d", c.x, got, e)
		}
	}
	for what, x := range mayNot() {
		if got, e := outbox.Add(nil, x); got != nil || e != api.ErrArg {
			t.Errorf("Add of %s: %v, %d", what, got, e)
		}
	}
}

func TestNext(t *testing.T) { // P15.2
	for now, want := range map[int]uint64{10: 5, 11: 5, 30: 5, api.MaxTime: 5, math.MaxInt: 5} {
		if x, e := outbox.Next(some(), now); x.Id != want || e != api.OK {
			t.Errorf("Next by %d: %v, %d", now, x, e)
		}
	}
	for _, now := range []int{9, 0, -1, math.MinInt} {
		if x, e := outbox.Next(some(), now); !outbox.Same([]api.Out{x}, []api.Out{{}}) || e != api.ErrNone {
			t.Errorf("Next by %d: %v, %d", now, x, e)
		}
	}
	if x, e := outbox.Next([]api.Out{out(1, 2, 9), out(2, 3, 8)}, 9); !outbox.Same([]api.Out{x}, []api.Out{out(2, 3, 8)}) || e != api.OK {
		t.Errorf("Next is not the one that is due first: %v, %d", x, e)
	}
	if x, e := outbox.Next(full(), 5); x.Id != 2 || e != api.OK {
		t.Errorf("Next of many: %v, %d", x, e)
	}
	if _, e := outbox.Next(nil, 5); e != api.ErrNone {
		t.Errorf("Next of none: %d", e)
	}
}

func TestAck(t *testing.T) { // P15.3
	s := some()
	if got, e := outbox.Ack(s, 5); !outbox.Same(got, []api.Out{s[0], s[2], s[3]}) || e != api.OK || !outbox.Same(s, some()) {
		t.Errorf("Ack: %v, %d", got, e)
	}
	for _, id := range []uint64{0, 3, 7} {
		if got, e := outbox.Ack(s, id); got != nil || e != api.ErrNone {
			t.Errorf("Ack(%d): %v, %d", id, got, e)
		}
	}
}

func TestNack(t *testing.T) { // P15.3
	l := []api.Out{out(1, 0, 0), out(2, 0, 3), out(3, 0, 0)}
	for i, c := range []struct{ now, due int }{{10, 12}, {20, 24}, {30, 38}, {api.MaxTime - 15, api.MaxTime}} {
		before := l
		got, up, e := outbox.Nack(l, 2, c.now)
		if !outbox.Same(got, []api.Out{l[0], out(2, i+1, c.due), l[2]}) || up || e != api.OK || before[1].Tries != i {
			t.Fatalf("Nack at %d: %v, %t, %d", c.now, got, up, e)
		}
		l = got
	}
	if got, up, e := outbox.Nack(l, 2, 99); !outbox.Same(got, []api.Out{l[0], l[2]}) || !up || e != api.OK {
		t.Errorf("the fifth Nack: %v, %t, %d", got, up, e)
	}
	for _, c := range []struct{ tries, now, due int }{{0, 0, 2}, {3, 0, 16}, {0, api.MaxTime, api.MaxTime}, {0, api.MaxTime - 1, api.MaxTime}, {0, api.MaxTime - 2, api.MaxTime}, {0, api.MaxTime - 3, api.MaxTime - 1}, {3, api.MaxTime - 17, api.MaxTime - 1}} {
		if got, up, e := outbox.Nack([]api.Out{out(1, c.tries, 9)}, 1, c.now); !outbox.Same(got, []api.Out{out(1, c.tries+1, c.due)}) || up || e != api.OK {
			t.Errorf("Nack of %d tries at %d: %v, %t, %d", c.tries, c.now, got, up, e)
		}
	}
	for _, c := range []struct {
		id   uint64
		now  int
		want api.Errno
	}{{9, 5, api.ErrNone}, {0, 5, api.ErrNone}, {9, -1, api.ErrArg}, {2, -1, api.ErrArg}, {2, api.MaxTime + 1, api.ErrArg}, {2, math.MinInt, api.ErrArg}, {2, math.MaxInt, api.ErrArg}} {
		if got, up, e := outbox.Nack(some(), c.id, c.now); got != nil || up || e != c.want {
			t.Errorf("Nack(%d, %d): %v, %t, %d", c.id, c.now, got, up, e)
		}
	}
}

func TestAgain(t *testing.T) { // P15.3
	s := some()
	for _, c := range []struct {
		id    uint64
		place int
	}{{1, 0}, {3, 1}, {7, 3}} {
		got, e := outbox.Again(s, out(c.id, 4, 99), 8)
		if !outbox.Same(got, slices.Insert(some(), c.place, out(c.id, 0, 8))) || e != api.OK || !outbox.Same(s, some()) {
			t.Errorf("Again of %d: %v, %d", c.id, got, e)
		}
	}
	if got, e := outbox.Again(nil, out(1, 4, 99), api.MaxTime); !outbox.Same(got, []api.Out{out(1, 0, api.MaxTime)}) || e != api.OK {
		t.Errorf("Again among none: %v, %d", got, e)
	}
	for _, c := range []struct {
		l    []api.Out
		x    api.Out
		now  int
		want api.Errno
	}{
		{s, out(5, 4, 9), 8, api.ErrThere}, {s, out(2, 4, 9), 8, api.ErrThere}, {s, out(math.MaxUint64, 4, 9), 8, api.ErrThere}, {full(), out(4, 4, 9), 8, api.ErrThere}, {full(), out(3, 4, 9), 8, api.ErrFull}, {full(), out(3, 5, 9), 8, api.ErrArg},
		{s, out(3, 4, 9), -1, api.ErrArg}, {s, out(3, 4, 9), api.MaxTime + 1, api.ErrArg}, {s, out(5, 4, 9), -1, api.ErrArg}, {full(), out(3, 4, 9), math.MinInt, api.ErrArg},
	} {
		if got, e := outbox.Again(c.l, c.x, c.now); got != nil || e != c.want {
			t.Errorf("Again(%v, %d): %v, %d", c.x, c.now, got, e)
		}
	}
	for what, x := range mayNot() {
		if got, e := outbox.Again(nil, x, 8); got != nil || e != api.ErrArg {
			t.Errorf("Again of %s: %v, %d", what, got, e)
		}
	}
}

func TestAnOutputIsThereTillItIsTakenOrGivenUp(t *testing.T) { // P15.4
	r := rand.New(rand.NewSource(16))
	var l []api.Out
	refused := map[uint64]int{}
	gone := map[uint64]bool{}
	id, now := uint64(0), 0
	for range 5000 {
		now += r.Intn(3)
		if r.Intn(3) == 0 {
			id++
			if got, e := outbox.Add(l, out(id, 0, now)); e == api.OK {
				l = got
			} else {
				gone[id] = true
			}
		}
		x, e := outbox.Next(l, now)
		if e == api.ErrNone {
			continue
		}
		if e != api.OK || gone[x.Id] || x.Due > now || slices.ContainsFunc(l, func(y api.Out) bool { return y.Due < x.Due }) {
			t.Fatalf("Next(%v, %d): %v, %d", l, now, x, e)
		}
		var got []api.Out
		if r.Intn(3) == 0 {
			got, e = outbox.Ack(l, x.Id)
			gone[x.Id] = true
		} else {
			got, gone[x.Id], e = outbox.Nack(l, x.Id, now)
			refused[x.Id]++
			if gone[x.Id] != (refused[x.Id] == 5) {
				t.Fatalf("%d was given up the %d. time", x.Id, refused[x.Id])
			}
		}
		if e != api.OK || outbox.Check(got) != api.OK {
			t.Fatalf("%v: %d", got, e)
		}
		l = got
		for i := uint64(1); i <= id; i++ {
			if (outbox.Find(l, i) < 0) != gone[i] {
				t.Fatalf("%d: is it there? %v", i, l)
			}
		}
	}
}
