package router_test

import (
	"fmt"
	"math/rand"
	"testing"

	"tryst/api"
	"tryst/disk"
	"tryst/keep"
	"tryst/route"
	"tryst/router"
	"tryst/shelf"
)

// someOp is an operation, most often one that goes well.
func someOp(r *rand.Rand, s api.Router) api.Op {
	var seq uint64
	for _, x := range s.Lasts {
		seq = x.Seq
	}
	id := uint64(1)
	if len(s.Out) > 0 {
		id = s.Out[r.Intn(len(s.Out))].Id
	} else if len(s.Given) > 0 {
		id = s.Given[0].Id
	}
	name := []string{"s", "t"}[r.Intn(2)]
	fields := [][]string{{"x"}, {}}[r.Intn(2)]
	return []api.Op{
		publish(seq+1, int64(r.Intn(3)), fields...), publish(seq+1, int64(r.Intn(3)), fields...), publish(max(1, seq+uint64(r.Intn(3))), 1),
		step(name, true), step(name, true), step(name, true), step(name, false), {Kind: api.Redrive, S: name}, {Kind: api.Ack, Id: id}, {Kind: api.Nack, Id: id}, {Kind: api.Resend, Id: id},
		{Kind: api.Tick, N: r.Intn(4)}, {Kind: api.Retain}, subscribe(name), {Kind: api.Unsubscribe, S: []string{"s", "t", "q", "q"}[r.Intn(4)]},
	}[r.Intn(15)]
}

func TestAnswersAreThoseOfTheModel(t *testing.T) { // P0.1, P21.2, P21.4
	h := api.Halves{Log: 12, Text: 200}
	for seed := range int64(6) {
		r := rand.New(rand.NewSource(seed))
		x := newEngine(t, h)
		var s api.Router
		for i := range 400 {
			o := someOp(r, s)
			want, n, errno := shelf.Do(s, o)
			told, e := x.Do(o)
			if e != api.OK || told != (api.Told{N: n, E: errno}) || !route.Same(x.State(), want) {
				t.Fatalf("Do(%v): %v, %d, want %d, %d", o, told, e, n, errno)
			}
			s = want
			sameAnswers(t, x, s)
			if i%20 == 0 {
				hasKept(t, x, h)
			}
		}
	}
}

func sameAnswers(t *testing.T, x *router.Engine, s api.Router) {
	t.Helper()
	out, e := x.Relay()
	if want, f := route.Relay(s); fmt.Sprint(out, e) != fmt.Sprint(want, f) {
		t.Fatalf("Relay: %v, %d, want %v, %d", out, e, want, f)
	}
	n, e := x.Unread("s")
	if want, f := route.Unread(s, "s"); n != want || e != f {
		t.Fatalf("Unread: %d, %d, want %d, %d", n, e, want, f)
	}
}

func TestWhateverThePowerDoes(t *testing.T) { // P0.2, P0.3, P21.4
	h := api.Halves{Log: 10, Text: 200}
	crashes := map[bool]int{}
	for seed := range int64(20) {
		r := rand.New(rand.NewSource(100 + seed))
		x := newEngine(t, h)
		acked := map[uint64]bool{}
		for range 150 {
			if r.Intn(5) == 0 {
				x.Fuel(r.Intn(7))
			}
			before := x.State()
			o := someOp(r, before)
			after, n, errno := shelf.Do(before, o)
			told, e := x.Do(o)
			if e == api.OK && (told != api.Told{N: n, E: errno}) || e != api.OK && (e != api.ErrPower || told != api.Told{}) {
				t.Fatalf("Do(%v): %v, %d", o, told, e)
			}
			if out, e := x.Relay(); e == api.OK && acked[out.Id] {
				t.Fatalf("%d was acked, and is told again", out.Id)
			}
			if x.Drive().Off || r.Intn(10) == 0 {
				loss := api.Loss{Kept: r.Uint64(), Torn: r.Intn(6) - 1, Cut: r.Intn(66)}
				opened := open(t, disk.Crash(x.Drive(), loss), h)
				isDone := route.Same(opened.State(), after)
				if !isDone && (e == api.OK || !route.Same(opened.State(), before)) {
					t.Fatalf("behind a crash in Do(%v) (%d) there is %v", o, e, opened.State())
				}
				if e != api.OK {
					crashes[isDone]++
				}
				x = opened
			}
			if o.Kind == api.Ack && route.Same(x.State(), after) && errno == api.OK {
				acked[o.Id] = true
			}
		}
	}
	if crashes[true] == 0 || crashes[false] == 0 {
		t.Errorf("crashes: %v", crashes)
	}
}

// full is an engine whose log has no room for a Step.
func full(t *testing.T, h api.Halves) *router.Engine {
	t.Helper()
	x := newEngine(t, h)
	do(t, x, subscribe("s"), 0, api.OK)
	for seq := range uint64(3) {
		do(t, x, publish(seq+1, 1, "x"), int(seq), api.OK)
	}
	for {
		k, _ := keep.Open(x.Drive(), h)
		if k.Add("full") == api.ErrFull {
			return x
		}
		do(t, x, api.Op{Kind: api.Tick, N: 1}, 0, api.OK)
	}
}

func TestEachWayTheKeepingOfAStepMayFail(t *testing.T) { // P0.2, P21.4
	h := api.Halves{Log: 8, Text: 6}
	base := full(t, h)
	after, _, _ := route.Step(base.State(), "s", true)
	seen := map[bool]int{}
	mostFuel := 0
	for fuel := range 12 {
		for mask := range uint64(8) {
			for torn := -1; torn < 3; torn++ {
				for cut := 0; cut < 65; cut += 4 {
					x := open(t, base.Drive(), h)
					x.Fuel(fuel)
					told, e := x.Do(step("s", true))
					x = open(t, disk.Crash(x.Drive(), api.Loss{Kept: mask, Torn: torn, Cut: cut}), h)
					isDone := route.Same(x.State(), after)
					if !isDone && (e == api.OK || !route.Same(x.State(), base.State())) {
						t.Fatalf("with fuel %d there is %v behind %v, %d", fuel, x.State(), told, e)
					}
					if e != api.OK {
						mostFuel = fuel
						seen[isDone]++
						again := api.Told{N: api.Waits}
						if told, e := x.Do(step("s", true)); e != api.OK || told != again {
							t.Fatalf("stepped again: %v, %d", told, e)
						}
						if n, _ := x.Unread("s"); isDone && n != 1 || !isDone && n != 2 {
							t.Fatalf("stepped again there are %d unread", n)
						}
					}
				}
			}
		}
	}
	if seen[true] == 0 || seen[false] == 0 || mostFuel < 6 {
		t.Errorf("seen %v, up to fuel %d", seen, mostFuel)
	}
}

func TestWhatWasAckedIsToldNoMore(t *testing.T) { // DOC.md, example 10; P0.3
	x := newEngine(t, small)
	do(t, x, subscribe("s"), 0, api.OK)
	do(t, x, publish(1, 1, "x"), 0, api.OK)
	do(t, x, publish(2, 1), 1, api.OK)
	do(t, x, step("s", true), api.Waits, api.OK)
	do(t, x, step("s", true), api.Fired, api.OK)
	if out, e := x.Relay(); out.Id != 1 || e != api.OK {
		t.Errorf("Relay: %v, %d", out, e)
	}
	do(t, x, api.Op{Kind: api.Ack, Id: 1}, 0, api.OK)
	x = open(t, disk.Crash(x.Drive(), api.Loss{}), small)
	if out, e := x.Relay(); out.Id != 0 || e != api.ErrNone {
		t.Errorf("Relay behind a crash: %v, %d", out, e)
	}
}
