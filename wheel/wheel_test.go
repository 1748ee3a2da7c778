package wheel_test

import (
	"math"
	"math/rand"
	"slices"
	"testing"

	"tryst/api"
	"tryst/wheel"
)

func timer(at int, id uint64) api.Timer { return api.Timer{At: at, Id: id} }

func some() []api.Timer {
	return []api.Timer{timer(0, 5), timer(3, 2), timer(3, 4), timer(7, 0), timer(api.MaxTime, math.MaxUint64)}
}

// full is as many timers as can be, of Ids 0, 1, ..
func full() []api.Timer {
	var l []api.Timer
	for i := range api.MaxTimers {
		l = append(l, timer(10, uint64(i)))
	}
	return l
}

func TestCheck(t *testing.T) { // P11.1
	for _, l := range [][]api.Timer{nil, {}, some(), full()} {
		if e := wheel.Check(l); e != api.OK {
			t.Errorf("Check(%v): %d", l, e)
		}
	}
	for _, l := range [][]api.Timer{
		append(full(), timer(10, 120)), {timer(-1, 1)}, {timer(api.MaxTime+1, 1)}, {timer(math.MinInt, 1)}, {timer(1, 2), timer(0, 1)},
		{timer(1, 2), timer(1, 1)}, {timer(1, 1), timer(1, 1)}, {timer(1, 1), timer(2, 2), timer(3, 1)},
	} {
		if e := wheel.Check(l); e != api.ErrArg {
			t.Errorf("Check(%v): %d", l, e)
		}
		if at, there := wheel.At(l, 1); at != 0 || there {
			t.Errorf("At of what may not be: %d, %t", at, there)
		}
		if x, there := wheel.Next(l); x != (api.Timer{}) || there {
			t.Errorf("Next of what may not be: %v, %t", x, there)
		}
		if got, e := wheel.Set(l, 1, 1); got != nil || e != api.ErrArg {
			t.Errorf("Set of what may not be: %v, %d", got, e)
		}
		if got, there := wheel.Stop(l, 1); got != nil || there {
			t.Errorf("Stop of what may not be: %v, %t", got, there)
		}
		if got, ids := wheel.Ring(l, api.MaxTime); got != nil || ids != nil {
			t.Errorf("Ring of what may not be: %v, %v", got, ids)
		}
	}
}

func TestAtAndNext(t *testing.T) { // P11.1
	for id, want := range map[uint64]int{5: 0, 4: 3, 0: 7, math.MaxUint64: api.MaxTime} {
		if at, there := wheel.At(some(), id); at != want || !there {
			t.Errorf("At(%d): %d, %t", id, at, there)
		}
	}
	if at, there := wheel.At(some(), 1); at != 0 || there {
		t.Errorf("At of none: %d, %t", at, there)
	}
	if x, there := wheel.Next(some()); x != timer(0, 5) || !there {
		t.Errorf("Next: %v, %t", x, there)
	}
	if x, there := wheel.Next(nil); x != (api.Timer{}) || there {
		t.Errorf("Next of none: %v, %t", x, there)
	}
}

func TestSet(t *testing.T) { // P11.2
	s := some()
	for _, c := range []struct {
		id   uint64
		at   int
		want []api.Timer
	}{
		{9, 0, []api.Timer{s[0], timer(0, 9), s[1], s[2], s[3], s[4]}}, {1, 0, []api.Timer{timer(0, 1), s[0], s[1], s[2], s[3], s[4]}},
		{3, 3, []api.Timer{s[0], s[1], timer(3, 3), s[2], s[3], s[4]}}, {9, api.MaxTime, []api.Timer{s[0], s[1], s[2], s[3], timer(api.MaxTime, 9), s[4]}},
		{2, 9, []api.Timer{s[0], s[2], s[3], timer(9, 2), s[4]}}, {4, 0, []api.Timer{timer(0, 4), s[0], s[1], s[3], s[4]}}, {4, 3, s}, {5, 3, []api.Timer{s[1], s[2], timer(3, 5), s[3], s[4]}},
	} {
		if got, e := wheel.Set(s, c.id, c.at); !slices.Equal(got, c.want) || e != api.OK {
			t.Errorf("Set(%d, %d): %v, %d", c.id, c.at, got, e)
		}
		if !slices.Equal(s, some()) {
			t.Fatal("Set changed what was handed in")
		}
	}
	for _, at := range []int{-1, math.MinInt, api.MaxTime + 1, math.MaxInt} {
		if got, e := wheel.Set(s, 1, at); got != nil || e != api.ErrArg {
			t.Errorf("Set at %d: %v, %d", at, got, e)
		}
		if got, e := wheel.Set(full(), 999, at); got != nil || e != api.ErrArg {
			t.Errorf("Set among many at %d: %v, %d", at, got, e)
		}
	}
	if got, e := wheel.Set(full(), 120, 5); got != nil || e != api.ErrFull {
		t.Errorf("Set of one too many: %v, %d", got, e)
	}
	if got, e := wheel.Set(full(), 7, 5); len(got) != api.MaxTimers || got[0] != timer(5, 7) || e != api.OK {
		t.Errorf("Set again among many: %v, %d", got, e)
	}
	if got, e := wheel.Set(full()[1:], 0, 11); len(got) != api.MaxTimers || got[119] != timer(11, 0) || e != api.OK {
		t.Errorf("Set of the last one for which there is room: %v, %d", got, e)
	}
}

func TestStop(t *testing.T) { // P11.2
	s := some()
	if got, there := wheel.Stop(s, 2); !slices.Equal(got, []api.Timer{s[0], s[2], s[3], s[4]}) || !there || !slices.Equal(s, some()) {
		t.Errorf("Stop: %v, %t", got, there)
	}
	if got, there := wheel.Stop(s, 3); !slices.Equal(got, s) || there {
		t.Errorf("Stop of none: %v, %t", got, there)
	}
	if got, there := wheel.Stop(nil, 3); len(got) != 0 || there {
		t.Errorf("Stop of nothing: %v, %t", got, there)
	}
}

func TestRing(t *testing.T) { // P11.2
	s := some()
	for _, c := range []struct {
		now  int
		want int
		ids  []uint64
	}{
		{-1, 0, nil}, {math.MinInt, 0, nil}, {0, 1, []uint64{5}}, {2, 1, []uint64{5}}, {3, 3, []uint64{5, 2, 4}}, {4, 3, []uint64{5, 2, 4}},
		{api.MaxTime - 1, 4, []uint64{5, 2, 4, 0}}, {api.MaxTime, 5, []uint64{5, 2, 4, 0, math.MaxUint64}}, {math.MaxInt, 5, []uint64{5, 2, 4, 0, math.MaxUint64}},
	} {
		if l, ids := wheel.Ring(s, c.now); !slices.Equal(l, s[c.want:]) || !slices.Equal(ids, c.ids) {
			t.Errorf("Ring(%d): %v, %v", c.now, l, ids)
		}
	}
}

func TestEachRingsOnceInOneOrder(t *testing.T) { // P11.3
	r := rand.New(rand.NewSource(13))
	for range 300 {
		var l []api.Timer
		when := map[uint64]int{}
		for range 60 {
			id := uint64(r.Intn(20))
			if r.Intn(4) == 0 {
				got, there := wheel.Stop(l, id)
				if _, was := when[id]; was != there {
					t.Fatalf("Stop(%v, %d): %t", l, id, there)
				}
				delete(when, id)
				l = got
				continue
			}
			at := r.Intn(30)
			got, e := wheel.Set(l, id, at)
			if e != api.OK || wheel.Check(got) != api.OK {
				t.Fatalf("Set(%v, %d, %d): %v, %d", l, id, at, got, e)
			}
			l, when[id] = got, at
		}
		_, atOnce := wheel.Ring(l, 30)
		var rung []uint64
		for now := 0; now <= 30; now += 1 + r.Intn(9) {
			var ids []uint64
			l, ids = wheel.Ring(l, now)
			for _, id := range ids {
				if when[id] > now {
					t.Fatalf("%d rang at %d", id, now)
				}
			}
			rung = append(rung, ids...)
		}
		_, ids := wheel.Ring(l, 30)
		if rung = append(rung, ids...); !slices.Equal(rung, atOnce) || len(rung) != len(when) {
			t.Fatalf("%v, and at once %v, of %v", rung, atOnce, when)
		}
	}
}
