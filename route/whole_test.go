package route_test

import (
	"fmt"
	"math/rand"
	"testing"

	"tryst/api"
	"tryst/event"
	"tryst/route"
)

// ledger is what was seen of a run, beside the router.
type ledger struct {
	read   map[string]int            // by subscriptions, what was read
	fired  map[string]map[uint64]int // by subscriptions, how often each Id fired
	acked  map[uint64]bool
	seqs   map[string]uint64
	stored int
}

func newLedger() *ledger {
	return &ledger{map[string]int{}, map[string]map[uint64]int{}, map[uint64]bool{}, map[string]uint64{}, 0}
}

// run does something to a router, and keeps the ledger.
func (l *ledger) run(t *testing.T, r *rand.Rand, s api.Router) api.Router {
	names := []string{"c", "s", "z"}
	name := names[r.Intn(3)]
	switch r.Intn(12) {
	case 0, 1, 2:
		return l.publish(t, r, s)
	case 3, 4, 5, 6, 7:
		total := s.Total
		got, told, e := route.Step(s, name, r.Intn(4) > 0)
		if e == api.OK && (told == api.Passed || told == api.Waits || told == api.Fired || told == api.Died) {
			l.read[name]++
		}
		l.fires(got, total, name)
		return got
	case 8:
		total := s.Total
		got, _, _ := route.Redrive(s, name)
		l.fires(got, total, name)
		return got
	case 9:
		return l.relay(t, r, s)
	case 10:
		got, _ := route.Tick(s, r.Intn(4))
		if r.Intn(2) == 0 && len(got.Given) > 0 {
			got, _ = route.Resend(got, got.Given[0].Id)
		}
		return got
	}
	got, _ := route.Retain(s)
	return got
}

func (l *ledger) publish(t *testing.T, r *rand.Rand, s api.Router) api.Router {
	producer := fmt.Sprint("p", r.Intn(3))
	e := ev([]string{"a.b", "a.c", "b"}[r.Intn(3)], producer, l.seqs[producer]+1, int64(r.Intn(4)))
	if r.Intn(2) == 0 {
		e = event.Put(e, "x", number(1))
	}
	got, n, errno := route.Publish(s, lay(e))
	if errno != api.OK {
		return got
	}
	l.seqs[producer]++
	l.stored++
	again, m, errno := route.Publish(got, lay(e))
	if errno != api.ErrThere || m != n || !route.Same(again, got) {
		t.Fatalf("published again: %d, %d", m, errno)
	}
	return got
}

// fires keeps what a new output was made of.
func (l *ledger) fires(s api.Router, total int, name string) {
	if s.Total == total {
		return
	}
	if l.fired[name] == nil {
		l.fired[name] = map[uint64]int{}
	}
	for _, id := range s.Out[len(s.Out)-1].Ids {
		l.fired[name][id]++
	}
}

func (l *ledger) relay(t *testing.T, r *rand.Rand, s api.Router) api.Router {
	x, e := route.Relay(s)
	if e != api.OK {
		return s
	}
	if l.acked[x.Id] {
		t.Fatalf("%d is told again", x.Id)
	}
	if r.Intn(3) > 0 {
		got, e := route.Ack(s, x.Id)
		if e != api.OK {
			t.Fatalf("Ack of what is next: %d", e)
		}
		l.acked[x.Id] = true
		return got
	}
	got, _, _ := route.Nack(s, x.Id)
	return got
}

// check holds a router against the ledger.
func (l *ledger) check(t *testing.T, s api.Router) {
	t.Helper()
	if route.Check(s) != api.OK {
		t.Fatalf("a router that may not be: %v", s)
	}
	for _, sub := range s.Subs {
		dead, waits := 0, 0
		for _, d := range s.Dead {
			if d.Sub == sub.D.Name {
				dead++
			}
		}
		for _, in := range sub.Insts {
			waits += len(in.L)
		}
		if where := sub.Passes + dead + waits + sub.Fires + sub.Over; where != l.read[sub.D.Name] {
			t.Fatalf("%s: read %d, and there are %d", sub.D.Name, l.read[sub.D.Name], where)
		}
		if len(l.fired[sub.D.Name]) != sub.Fires {
			t.Fatalf("%s: fired %d, by its own count %d", sub.D.Name, len(l.fired[sub.D.Name]), sub.Fires)
		}
		for id, times := range l.fired[sub.D.Name] {
			if times != 1 {
				t.Fatalf("%s: %d fired %d times", sub.D.Name, id, times)
			}
		}
	}
}

func TestARouterStaysOne(t *testing.T) { // P16.8, P0.3, P0.4
	for seed := range int64(8) {
		r := rand.New(rand.NewSource(seed))
		l := newLedger()
		s := newRig(t, def("s"), countDef("c", 3), anyDef("z", "**")).s
		for range 700 {
			s = l.run(t, r, s)
			l.check(t, s)
		}
		if l.stored < 100 || len(l.acked) == 0 {
			t.Errorf("little was done: %v", l)
		}
		drain(t, s)
	}
}

// drain steps as often as there are unread ones, and acks as often as there are outputs.
func drain(t *testing.T, s api.Router) { // P0.5
	t.Helper()
	for _, name := range []string{"c", "s", "z"} {
		n, _ := route.Unread(s, name)
		for range n {
			for len(s.Out) > 0 {
				s, _ = route.Ack(s, s.Out[0].Id)
			}
			got, told, e := route.Step(s, name, true)
			if e != api.OK || told == api.Nothing {
				t.Fatalf("a Step of %s: %d, %d", name, told, e)
			}
			s = got
		}
		if left, e := route.Unread(s, name); left != 0 || e != api.OK {
			t.Errorf("%d steps leave %d", n, left)
		}
	}
	outs := len(s.Out)
	for range outs {
		var e api.Errno
		if s, e = route.Ack(s, s.Out[0].Id); e != api.OK {
			t.Fatalf("Ack: %d", e)
		}
	}
	s, _ = route.Tick(s, 99)
	if x, e := route.Relay(s); e != api.ErrNone {
		t.Errorf("left behind all acks: %v, %d", x, e)
	}
}

func TestExamplesOfTheWhole(t *testing.T) { // DOC.md, examples 1 to 8
	r := newRig(t, def("s"))
	s, n, e := route.Publish(r.s, lay(ev("a.b", "p", 1, 0)))
	r.put(s, e)
	if s, n, e = route.Publish(r.s, lay(ev("a.b", "p", 1, 0))); n != 0 || e != api.ErrThere {
		t.Errorf("1: %d, %d", n, e)
	}
	if _, _, e = route.Publish(r.s, lay(ev("a.b", "p", 3, 0))); e != api.ErrGap {
		t.Errorf("1: %d", e)
	}
	r.step("s", true, api.Passed) // 2
	r.publish("a.b", 1, "x")
	r.publish("a.b", 1)
	r.step("s", true, api.Waits) // 3
	r.step("s", true, api.Fired)
	r.publish("a.b", 1, "x")
	r.publish("a.b", 2)
	r.step("s", true, api.Waits) // 4
	r.step("s", true, api.Waits)
	if len(r.sub("s").Insts) != 2 {
		t.Errorf("4: %v", r.sub("s").Insts)
	}
	r.tick(6) // 5
	if r.sub("s").Over != 2 || len(r.sub("s").Insts) != 0 {
		t.Errorf("5: %v", r.sub("s"))
	}
	r.publish("a.b", 3, "x")
	for _, want := range []int{api.Failed, api.Failed, api.Died} { // 6
		r.step("s", false, want)
	}
	r.redrive("s", api.Waits)
	r.tick(4)
	for i, due := range []int{12, 14, 18, 26} { // 7
		x := r.s.Out[0]
		r.nack(x.Id, false)
		if got := r.s.Out[0]; got.Due != due || got.Tries != i+1 {
			t.Errorf("7: %v", got)
		}
	}
	r.nack(1, true)
	s, e = route.Retain(r.s) // 8
	r.put(s, e)
	if x := r.s.Topics[0]; x.First != 6 || len(x.Log) != 0 {
		t.Errorf("8: %v", x)
	}
}
