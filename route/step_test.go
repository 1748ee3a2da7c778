package route_test

import (
	"math"
	"slices"
	"testing"

	"tryst/api"
	"tryst/outbox"
	"tryst/route"
)

func TestStepTakesIn(t *testing.T) { // P16.4
	r := newRig(t, def("s"))
	r.step("s", true, api.Nothing)
	r.step("s", false, api.Nothing)
	r.publish("a.b", 0, "x") // without k
	r.publish("b", 1, "x")   // not wanted
	r.publish("a.b", 1, "x")
	r.publish("a.b", 2, "x")
	r.publish("a.b", 2, "x")
	r.publish("a.b", 2)
	r.tick(4)
	for _, want := range []int{api.Passed, api.Waits, api.Waits, api.Waits, api.Fired, api.Nothing} {
		r.step("s", true, want)
	}
	sub := r.sub("s")
	if !slices.Equal(sub.Offs, []api.Off{{Topic: "a.b", Next: 5}}) || sub.Passes != 1 || sub.Taken != 4 || sub.Fires != 2 || sub.Over != 0 || sub.Fails != 0 {
		t.Errorf("the subscription: %v", sub)
	}
	if len(sub.Insts) != 2 || !slices.Equal(sub.Insts[0].L, []api.Kept{{Part: 0, Id: 1, At: 4}}) || !slices.Equal(sub.Insts[1].L, []api.Kept{{Part: 0, Id: 3, At: 4}}) || sub.Insts[1].Key != number(2) {
		t.Errorf("what waits: %v", sub.Insts)
	}
	if want := []api.Out{{Id: 1, Sub: "s", Ids: []uint64{2, 4}, Due: 4}}; !outbox.Same(r.s.Out, want) || r.s.Total != 1 {
		t.Errorf("outputs: %v of %d", r.s.Out, r.s.Total)
	}
	s, told, e := route.Step(r.s, "q", true)
	r.refused("Step of none", s, e, api.ErrNone)
	if told != 0 {
		t.Errorf("Step of none: %d", told)
	}
}

func TestStepOfNoPart(t *testing.T) { // P16.4
	d := def("s")
	d.Where = []api.Pred{has("x"), has("y")}
	d.Key = ""
	r := newRig(t, d)
	r.publish("a.b", 1, "z")
	r.publish("a.b", 1, "y", "z")
	r.publish("a.b", 2, "x", "y")
	for _, want := range []int{api.Passed, api.Waits, api.Fired} {
		r.step("s", true, want)
	}
	if sub := r.sub("s"); sub.Passes != 1 || sub.Taken != 2 || sub.Fires != 2 {
		t.Errorf("the subscription: %v", sub)
	}
}

func TestStepCountsWhatIsOver(t *testing.T) { // P16.4
	r := newRig(t, def("s"))
	r.publish("a.b", 1, "x")
	r.publish("a.b", 1, "x")
	r.publish("a.b", 1)
	r.step("s", true, api.Waits)
	r.step("s", true, api.Waits)
	r.s.Now = 6 // as a Tick takes away what is over ahead of a Step, a router is made in which it did not
	r.step("s", true, api.Waits)
	if sub := r.sub("s"); sub.Over != 2 || sub.Taken != 3 || len(sub.Insts) != 1 || len(sub.Insts[0].L) != 1 || sub.Insts[0].L[0].At != 6 {
		t.Errorf("the subscription: %v", sub)
	}
}

func TestStepFails(t *testing.T) { // P16.4
	r := newRig(t, def("s"))
	r.publish("a.b", 1, "x")
	r.publish("a.b", 1)
	r.step("s", false, api.Failed)
	if sub := r.sub("s"); sub.Fails != 1 || len(sub.Offs) != 0 {
		t.Errorf("one fail: %v", sub)
	}
	r.step("s", false, api.Failed)
	r.step("s", true, api.Waits)
	if sub := r.sub("s"); sub.Fails != 0 || sub.Offs[0].Next != 1 {
		t.Errorf("it went well: %v", sub)
	}
	for _, want := range []int{api.Failed, api.Failed, api.Died, api.Nothing} {
		r.step("s", false, want)
	}
	if sub := r.sub("s"); sub.Fails != 0 || sub.Offs[0].Next != 2 || sub.Taken != 1 {
		t.Errorf("it died: %v", sub)
	}
	if want := []api.Dead{{Sub: "s", E: lay(ev("a.b", "p", 2, 1))}}; !slices.Equal(r.s.Dead, want) {
		t.Errorf("dead: %v", r.s.Dead)
	}
}

func TestStepWithoutRoom(t *testing.T) { // P16.4, P0.6
	r := newRig(t, anyDef("s", "a"))
	for i := range api.MaxLog {
		r.publish("a", int64(i+1))
	}
	for range api.MaxDead {
		r.step("s", false, api.Failed)
		r.step("s", false, api.Failed)
		r.step("s", false, api.Died)
	}
	r.step("s", false, api.Failed)
	r.step("s", false, api.Failed)
	s, told, e := route.Step(r.s, "s", false)
	r.refused("Step with 40 dead", s, e, api.ErrFull)
	if told != 0 || len(r.s.Dead) != 40 || r.s.Dead[39].E != lay(ev("a", "p", 40, 40)) {
		t.Errorf("told %d, dead: %v", told, r.s.Dead)
	}
	r.step("s", true, api.Fired)

	r = newRig(t, anyDef("s", "a"), anyDef("t", "a"))
	for i := range api.MaxLog {
		r.publish("a", int64(i+1))
	}
	for range api.MaxLog {
		r.step("s", true, api.Fired)
	}
	s, told, e = route.Step(r.s, "t", true)
	r.refused("Step with 100 outputs", s, e, api.ErrFull)
	if told != 0 {
		t.Errorf("told %d", told)
	}
	r.ack(50)
	r.step("t", true, api.Fired)
	if last := r.s.Out[99]; last.Id != 101 || last.Sub != "t" || !slices.Equal(last.Ids, []uint64{1}) {
		t.Errorf("the last output: %v", last)
	}

	r = newRig(t, def("s"))
	for i := range api.MaxInsts + 1 {
		r.publish("a.b", int64(i+1), "x")
	}
	for range api.MaxInsts {
		r.step("s", true, api.Waits)
	}
	s, _, e = route.Step(r.s, "s", true)
	r.refused("Step with 40 instances", s, e, api.ErrFull)
	r.tick(6)
	r.step("s", true, api.Waits)
}

func TestRedrive(t *testing.T) { // P16.5
	r := newRig(t, def("s"), anyDef("t", "a.b"))
	s, _, e := route.Redrive(r.s, "s")
	r.refused("Redrive of nothing", s, e, api.ErrNone)
	for range 3 {
		r.publish("a.b", 1, "x")
	}
	r.publish("a.b", 1)
	r.publish("a.b", 0)
	for _, name := range []string{"t", "s", "s", "s", "s", "s"} {
		r.step(name, false, api.Failed)
		r.step(name, false, api.Failed)
		r.step(name, false, api.Died)
	}
	for _, want := range []int{api.Waits, api.Waits, api.Waits, api.Fired, api.Passed} {
		r.step("s", false, api.Nothing)
		r.redrive("s", want)
	}
	if sub := r.sub("s"); sub.Taken != 4 || sub.Fires != 2 || sub.Passes != 1 || sub.Offs[0].Next != 5 || len(r.s.Dead) != 1 || r.s.Dead[0].Sub != "t" {
		t.Errorf("%v, dead: %v", sub, r.s.Dead)
	}
	s, told, e := route.Redrive(r.s, "s")
	r.refused("Redrive of nothing more", s, e, api.ErrNone)
	s, _, e = route.Redrive(r.s, "q")
	r.refused("Redrive of none", s, e, api.ErrNone)
	if told != 0 {
		t.Errorf("told %d", told)
	}
	r.redrive("t", api.Fired)
}

func TestRedriveLeavesFailsAlone(t *testing.T) { // P16.5
	r := newRig(t, anyDef("s", "a"))
	r.publish("a", 1)
	r.publish("a", 2)
	for _, want := range []int{api.Failed, api.Failed, api.Died, api.Failed, api.Failed} {
		r.step("s", false, want)
	}
	r.redrive("s", api.Fired)
	if sub := r.sub("s"); sub.Fails != 2 || sub.Offs[0].Next != 1 {
		t.Errorf("the subscription: %v", sub)
	}
}

func TestRedriveWithoutRoom(t *testing.T) { // P16.5, P0.6
	r := newRig(t, anyDef("s", "a"))
	for i := range api.MaxLog {
		r.publish("a", int64(i+1))
	}
	for _, want := range []int{api.Failed, api.Failed, api.Died} {
		r.step("s", false, want)
	}
	for range api.MaxLog - 1 {
		r.step("s", true, api.Fired)
	}
	r.redrive("s", api.Fired)
	r = newRig(t, anyDef("s", "a"), anyDef("t", "a"))
	for i := range api.MaxLog {
		r.publish("a", int64(i+1))
	}
	for _, want := range []int{api.Failed, api.Failed, api.Died} {
		r.step("s", false, want)
	}
	for range api.MaxLog {
		r.step("t", true, api.Fired)
	}
	s, told, e := route.Redrive(r.s, "s")
	r.refused("Redrive with 100 outputs", s, e, api.ErrFull)
	if told != 0 || len(r.s.Dead) != 1 {
		t.Errorf("told %d, dead: %v", told, r.s.Dead)
	}
}

func TestRelayAckAndNack(t *testing.T) { // P16.6
	r := newRig(t, countDef("s", 2))
	for range 6 {
		r.publish("a.b", 1)
	}
	if x, e := route.Relay(r.s); x.Id != 0 || e != api.ErrNone {
		t.Errorf("Relay of none: %v, %d", x, e)
	}
	r.tick(10)
	for _, want := range []int{api.Waits, api.Fired, api.Waits, api.Fired, api.Waits, api.Fired} {
		r.step("s", true, want)
	}
	if x, e := route.Relay(r.s); !outbox.Same([]api.Out{x}, []api.Out{{Id: 1, Sub: "s", Ids: []uint64{1, 2}, Due: 10}}) || e != api.OK {
		t.Errorf("Relay: %v, %d", x, e)
	}
	r.nack(1, false)
	if x, _ := route.Relay(r.s); x.Id != 2 {
		t.Errorf("Relay behind a Nack: %v", x)
	}
	r.ack(2)
	r.ack(3)
	if x, e := route.Relay(r.s); x.Id != 0 || e != api.ErrNone {
		t.Errorf("Relay of what is not due: %v, %d", x, e)
	}
	if r.s.Out[0].Due != 12 || r.s.Out[0].Tries != 1 {
		t.Errorf("behind one Nack: %v", r.s.Out)
	}
	r.tick(10)
	r.nack(1, false)
	if r.s.Out[0].Due != 24 {
		t.Errorf("behind two: %v", r.s.Out)
	}
	r.nack(1, false)
	r.nack(1, false)
	if r.s.Out[0].Due != 36 || len(r.s.Given) != 0 {
		t.Errorf("behind four: %v", r.s.Out)
	}
	r.nack(1, true)
	if want := []api.Out{{Id: 1, Sub: "s", Ids: []uint64{1, 2}, Tries: 4, Due: 36}}; !outbox.Same(r.s.Given, want) || len(r.s.Out) != 0 {
		t.Errorf("behind five: %v, %v", r.s.Out, r.s.Given)
	}
	s, e := route.Ack(r.s, 1)
	r.refused("Ack of what is given up", s, e, api.ErrNone)
	s, up, e := route.Nack(r.s, 1)
	r.refused("Nack of what is given up", s, e, api.ErrNone)
	s, e = route.Resend(r.s, 2)
	r.refused("Resend of what was acked", s, e, api.ErrNone)
	r.tick(5)
	s, e = route.Resend(r.s, 1)
	r.put(s, e)
	if want := []api.Out{{Id: 1, Sub: "s", Ids: []uint64{1, 2}, Due: 25}}; !outbox.Same(r.s.Out, want) || len(r.s.Given) != 0 || up {
		t.Errorf("sent again: %v, %v", r.s.Out, r.s.Given)
	}
	s, e = route.Resend(r.s, 1)
	r.refused("Resend of what is out", s, e, api.ErrNone)
}

func TestGivenGoesWhereItGoes(t *testing.T) { // P16.6
	r := newRig(t, anyDef("s", "a"))
	for range 4 {
		r.publish("a", 1)
		r.step("s", true, api.Fired)
	}
	ids := func(l []api.Out) []uint64 {
		var out []uint64
		for _, x := range l {
			out = append(out, x.Id)
		}
		return out
	}
	for _, id := range []uint64{3, 1, 4, 2} {
		r.giveUp(id)
	}
	if !slices.Equal(ids(r.s.Given), []uint64{1, 2, 3, 4}) {
		t.Errorf("given up: %v", ids(r.s.Given))
	}
	for _, id := range []uint64{4, 2} {
		s, e := route.Resend(r.s, id)
		r.put(s, e)
	}
	if !slices.Equal(ids(r.s.Given), []uint64{1, 3}) || !slices.Equal(ids(r.s.Out), []uint64{2, 4}) {
		t.Errorf("given up: %v, out: %v", ids(r.s.Given), ids(r.s.Out))
	}
}

func TestOutputsWithoutRoom(t *testing.T) { // P16.6, P0.6
	r := newRig(t, anyDef("s", "a"))
	r.s.Total = 201
	for i := range api.MaxOut {
		r.s.Given = append(r.s.Given, api.Out{Id: uint64(2*i + 2), Sub: "s", Ids: []uint64{1}, Tries: 4})
	}
	r.s.Out = []api.Out{{Id: 7, Sub: "s", Ids: []uint64{1}, Tries: 4}}
	s, up, e := route.Nack(r.s, 7)
	r.refused("Nack with 100 given up", s, e, api.ErrFull)
	if up {
		t.Error("it is given up, without room")
	}
	r.s.Out = nil
	for i := range api.MaxOut {
		r.s.Out = append(r.s.Out, api.Out{Id: uint64(2*i + 1), Sub: "s", Ids: []uint64{1}})
	}
	s, e = route.Resend(r.s, 4)
	r.refused("Resend with 100 out", s, e, api.ErrFull)
}

func TestTick(t *testing.T) { // P16.7
	r := newRig(t, def("s"), countDef("t", 3))
	r.publish("a.b", 1, "x")
	r.publish("a.b", 2, "x")
	r.step("s", true, api.Waits)
	r.step("t", true, api.Waits)
	r.tick(2)
	r.step("s", true, api.Waits)
	r.step("t", true, api.Waits)
	r.tick(3)
	if r.sub("s").Over != 0 || r.s.Now != 5 {
		t.Errorf("at 5: %v", r.s)
	}
	r.tick(0)
	before := r.s
	r.tick(1)
	if sub := r.sub("s"); sub.Over != 1 || len(sub.Insts) != 1 || sub.Insts[0].Key != number(2) {
		t.Errorf("at 6: %v", sub)
	}
	if sub := r.sub("t"); sub.Over != 1 || len(sub.Insts) != 1 || len(sub.Insts[0].L) != 1 {
		t.Errorf("at 6: %v", sub)
	}
	if before.Now != 5 || len(before.Subs[0].Insts) != 2 {
		t.Error("Tick changed what was handed in")
	}
	r.tick(99)
	if r.sub("s").Over != 2 || r.sub("t").Over != 2 || len(r.sub("t").Insts) != 0 {
		t.Errorf("at 105: %v", r.s)
	}
	for _, n := range []int{-1, math.MinInt, api.MaxTime - 104, api.MaxTime, math.MaxInt} {
		s, e := route.Tick(r.s, n)
		r.refused("Tick", s, e, api.ErrArg)
	}
	if s, e := route.Tick(api.Router{Now: 1}, api.MaxTime); s.Now != 1 || e != api.ErrArg {
		t.Errorf("Tick past the end of time, of no subscriptions: %v, %d", s, e)
	}
	r.tick(api.MaxTime - 105)
	r.tick(0)
	s, e := route.Tick(r.s, 1)
	r.refused("Tick at the end of time", s, e, api.ErrArg)
}

func TestRetainAndUnread(t *testing.T) { // P16.7
	r := newRig(t, anyDef("s", "a.*"), anyDef("t", "a.b"))
	unread := func(name string, want int) {
		t.Helper()
		if n, e := route.Unread(r.s, name); n != want || e != api.OK {
			t.Errorf("Unread(%s): %d, %d, want %d", name, n, e, want)
		}
	}
	retain := func() {
		t.Helper()
		s, e := route.Retain(r.s)
		r.put(s, e)
	}
	firsts := func(want ...int) {
		t.Helper()
		for i, topic := range r.s.Topics {
			if topic.First != want[i] {
				t.Errorf("%s has the first %d, want %d", topic.Name, topic.First, want[i])
			}
		}
	}
	unread("s", 0)
	for range 3 {
		r.publish("a.b", 1)
		r.publish("a.c", 1)
		r.publish("c", 1)
	}
	unread("s", 6)
	unread("t", 3)
	retain()
	firsts(0, 0, 3)
	r.step("s", true, api.Fired)
	r.step("s", true, api.Fired)
	r.step("t", true, api.Fired)
	unread("s", 4)
	unread("t", 2)
	retain()
	firsts(1, 0, 3)
	unread("s", 4)
	unread("t", 2)
	r.step("s", true, api.Fired)
	r.step("s", true, api.Fired)
	retain()
	firsts(1, 1, 3)
	s, e := route.Subscribe(r.s, anyDef("late", "**"))
	r.put(s, e)
	unread("late", 4)
	retain()
	firsts(1, 1, 3)
	r.step("late", true, api.Fired)
	if r.s.Topics[0].First != 1 || r.sub("late").Offs[0].Next != 2 {
		t.Errorf("what was trimmed is not skipped: %v", r.sub("late"))
	}
	s, e = route.Unsubscribe(r.s, "late")
	r.put(s, e)
	s, e = route.Unsubscribe(r.s, "t")
	r.put(s, e)
	retain()
	firsts(3, 1, 3)
	if n, e := route.Unread(r.s, "q"); n != 0 || e != api.ErrNone {
		t.Errorf("Unread of none: %d, %d", n, e)
	}
}

func TestCountsGoAround(t *testing.T) { // P16.1 (Words)
	with := func(change func(s *api.Router)) *rig {
		r := newRig(t, anyDef("s", "a"))
		r.publish("a", 1)
		change(&r.s)
		r.put(r.s, api.OK)
		return r
	}
	r := with(func(s *api.Router) { s.Total = math.MaxInt })
	s, told, e := route.Step(r.s, "s", true)
	if s.Total != math.MinInt || len(s.Out) != 1 || s.Out[0].Id != 1<<63 || told != api.Fired || e != api.OK || route.Check(s) != api.ErrArg {
		t.Errorf("Total goes around: %v, %d, %d", s, told, e)
	}
	r = with(func(s *api.Router) { s.Subs[0].Taken, s.Subs[0].Fires = math.MaxInt, math.MaxInt })
	s, told, e = route.Step(r.s, "s", true)
	if sub := s.Subs[0]; sub.Taken != math.MinInt || sub.Fires != math.MinInt || !slices.Equal(s.Out[0].Ids, []uint64{1 << 63}) || told != api.Fired || e != api.OK || route.Check(s) != api.ErrArg {
		t.Errorf("Taken goes around: %v, %d, %d", s, told, e)
	}
	r = with(func(s *api.Router) { s.Subs[0].Passes, s.Subs[0].D.Where = math.MaxInt, []api.Pred{has("q")} })
	s, told, e = route.Step(r.s, "s", true)
	if s.Subs[0].Passes != math.MinInt || told != api.Passed || e != api.OK || route.Check(s) != api.ErrArg {
		t.Errorf("Passes goes around: %v, %d, %d", s, told, e)
	}
}
