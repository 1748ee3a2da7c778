package route_test

import (
	"fmt"
	"math"
	"slices"
	"testing"

	"tryst/api"
	"tryst/event"
	"tryst/offs"
	"tryst/route"
)

func number(n int64) api.Value { return api.Value{Num: true, N: n} }

func all() api.Pred { return api.Pred{Op: "all"} }

func has(s string) api.Pred { return api.Pred{Op: "has", S: s} }

// def wants a.*, by the key k: what has x, and whatever else, within 5.
func def(name string) api.Def {
	return api.Def{Name: name, Globs: []string{"a.*"}, Key: "k", Where: []api.Pred{has("x"), all()}, J: api.Join{Kind: "all", Parts: 2, Window: 5}}
}

// anyDef wants what a glob meets, and fires with each event.
func anyDef(name, glob string) api.Def {
	return api.Def{Name: name, Globs: []string{glob}, Where: []api.Pred{all()}, J: api.Join{Kind: "any", Parts: 1}}
}

func countDef(name string, need int) api.Def {
	return api.Def{Name: name, Globs: []string{"a.*"}, Where: []api.Pred{all()}, J: api.Join{Kind: "count", Parts: 1, Need: need, Window: 5}}
}

// ev is an event of a producer, with fields of which each is 1, but k, which is the last one's number.
func ev(topic, producer string, seq uint64, key int64, fields ...string) api.Event {
	e := api.Event{Topic: topic, Producer: producer, Seq: seq}
	if key != 0 {
		e = event.Put(e, "k", number(key))
	}
	for _, f := range fields {
		e = event.Put(e, f, number(1))
	}
	return e
}

func lay(e api.Event) string {
	s, errno := event.Lay(e)
	if errno != api.OK {
		panic(fmt.Sprint(e, " may not be"))
	}
	return s
}

// rig is a router to which things are done that go well.
type rig struct {
	t *testing.T
	s api.Router
}

func newRig(t *testing.T, defs ...api.Def) *rig {
	t.Helper()
	r := &rig{t: t}
	for _, d := range defs {
		s, e := route.Subscribe(r.s, d)
		r.put(s, e)
	}
	return r
}

func (r *rig) put(s api.Router, e api.Errno) {
	r.t.Helper()
	if e != api.OK || route.Check(s) != api.OK {
		r.t.Fatalf("error %d, or no router: %v", e, s)
	}
	r.s = s
}

// publish publishes an event by the next number of the producer p.
func (r *rig) publish(topic string, key int64, fields ...string) {
	r.t.Helper()
	seq := uint64(1)
	for _, x := range r.s.Lasts {
		if x.Producer == "p" {
			seq = x.Seq + 1
		}
	}
	s, _, e := route.Publish(r.s, lay(ev(topic, "p", seq, key, fields...)))
	r.put(s, e)
}

func (r *rig) step(name string, ok bool, want int) {
	r.t.Helper()
	s, told, e := route.Step(r.s, name, ok)
	r.put(s, e)
	if told != want {
		r.t.Fatalf("Step: %d, want %d", told, want)
	}
}

func (r *rig) redrive(name string, want int) {
	r.t.Helper()
	s, told, e := route.Redrive(r.s, name)
	r.put(s, e)
	if told != want {
		r.t.Fatalf("Redrive: %d, want %d", told, want)
	}
}

func (r *rig) tick(n int) {
	r.t.Helper()
	s, e := route.Tick(r.s, n)
	r.put(s, e)
}

func (r *rig) ack(id uint64) {
	r.t.Helper()
	s, e := route.Ack(r.s, id)
	r.put(s, e)
}

func (r *rig) nack(id uint64, want bool) {
	r.t.Helper()
	s, up, e := route.Nack(r.s, id)
	r.put(s, e)
	if up != want {
		r.t.Fatalf("Nack(%d): %t", id, up)
	}
}

func (r *rig) giveUp(id uint64) {
	r.t.Helper()
	for i := range 5 {
		r.nack(id, i == 4)
	}
}

func (r *rig) sub(name string) api.Sub {
	r.t.Helper()
	for _, sub := range r.s.Subs {
		if sub.D.Name == name {
			return sub
		}
	}
	r.t.Fatalf("there is no %s", name)
	return api.Sub{}
}

// refused checks that a call answered an error, and the router as it is.
func (r *rig) refused(what string, s api.Router, e, want api.Errno) {
	r.t.Helper()
	if e != want || !route.Same(s, r.s) {
		r.t.Errorf("%s: %d, want %d; is the router as it is: %t", what, e, want, route.Same(s, r.s))
	}
}

// rich is a router in which there is something of all.
func rich(t *testing.T) api.Router {
	r := newRig(t, def("s"), countDef("c", 2), anyDef("z", "**"))
	r.tick(3)
	for i := range 4 {
		r.publish("a.b", int64(i%2+1), []string{"x", "y"}[i/2])
	}
	r.publish("a.c", 1)
	r.publish("b", 7, "x")
	for range 2 {
		r.step("s", true, api.Waits)
		r.step("z", true, api.Fired)
		r.step("z", true, api.Fired)
	}
	r.step("s", true, api.Fired)
	r.step("s", true, api.Fired)
	r.step("c", true, api.Waits)
	r.step("c", true, api.Fired)
	r.step("c", true, api.Waits)
	for _, want := range []int{api.Failed, api.Failed, api.Died, api.Failed} {
		r.step("c", false, want)
	}
	r.step("s", true, api.Waits)
	r.giveUp(1)
	r.nack(2, false)
	r.ack(3)
	return r.s
}

func TestCheck(t *testing.T) { // P16.1
	if e := route.Check(api.Router{}); e != api.OK {
		t.Errorf("Check of the zero router: %d", e)
	}
	most := api.Router{Now: api.MaxTime, Total: math.MaxInt, Subs: []api.Sub{{D: anyDef("s", "a"), Taken: math.MaxInt, Fires: math.MaxInt, Passes: math.MaxInt, Fails: 2}}}
	for _, s := range []api.Router{rich(t), most} {
		if e := route.Check(s); e != api.OK {
			t.Errorf("Check(%v): %d", s, e)
		}
	}
	for what, change := range spoilers() {
		s := rich(t)
		change(&s)
		if e := route.Check(s); e != api.ErrArg {
			t.Errorf("Check of %s: %d", what, e)
		}
		everyCallRefuses(t, what, s)
	}
}

// spoilers change a rich router to one that may not be.
func spoilers() map[string]func(s *api.Router) {
	sub := func(change func(sub *api.Sub)) func(s *api.Router) {
		return func(s *api.Router) { change(&s.Subs[1]) } // s, for which one waits
	}
	return map[string]func(s *api.Router){
		"Now below 0": func(s *api.Router) { s.Now = -1 }, "Now too great": func(s *api.Router) { s.Now = api.MaxTime + 1 }, "Now ahead of what waits": func(s *api.Router) { s.Now = 2 },
		"bad topics": func(s *api.Router) { s.Topics[0].First = -1 }, "bad Lasts": func(s *api.Router) { s.Lasts[0].Seq = 0 }, "falling topics": func(s *api.Router) { slices.Reverse(s.Topics) },
		"falling subscriptions": func(s *api.Router) { slices.Reverse(s.Subs) }, "one twice": func(s *api.Router) { s.Subs[0] = s.Subs[1] },
		"nine subscriptions": func(s *api.Router) {
			for i := range 9 {
				s.Subs = append(s.Subs[:i:i], api.Sub{D: anyDef(fmt.Sprint(i), "a")})
			}
			s.Dead = nil
		},
		"Total below 0": func(s *api.Router) { s.Total = -1 }, "Total below an Id": func(s *api.Router) { s.Total = 6 }, "Total below a given Id": func(s *api.Router) { s.Total, s.Out, s.Given[0].Id = 5, nil, 6 },
		"bad Out": func(s *api.Router) { s.Out[0].Ids = nil }, "bad Given": func(s *api.Router) { s.Given[0].Tries = 5 }, "an Id in both": func(s *api.Router) { s.Given[0].Id = s.Out[0].Id },
		"41 dead": func(s *api.Router) { s.Dead = slices.Repeat(s.Dead[:1], 41) }, "dead of none": func(s *api.Router) { s.Dead[0].Sub = "q" }, "dead without octets": func(s *api.Router) { s.Dead[0].E = "" },
		"dead and more":    func(s *api.Router) { s.Dead[0].E += "\x00" },
		"a bad definition": sub(func(sub *api.Sub) { sub.D.Globs = nil }), "bad offsets": sub(func(sub *api.Sub) { sub.Offs[0].Next = -1 }), "an offset of no topic": sub(func(sub *api.Sub) { sub.Offs[0].Topic = "a.a" }),
		"an offset above the end": sub(func(sub *api.Sub) { sub.Offs[0].Next = 5 }), "bad instances": sub(func(sub *api.Sub) { sub.Insts[0].Key.S = "x" }), "an empty instance": sub(func(sub *api.Sub) { sub.Insts[0].L = nil }),
		"Id 0": sub(func(sub *api.Sub) { sub.Insts[0].L[0].Id = 0 }), "an Id above Taken": sub(func(sub *api.Sub) { sub.Insts[0].L[0].Id = 6 }), "what came later": sub(func(sub *api.Sub) { sub.Insts[0].L[0].At = 4 }),
		"Fails below 0": sub(func(sub *api.Sub) { sub.Fails = -1 }), "Fails of Budget": sub(func(sub *api.Sub) { sub.Fails = 3 }), "Passes below 0": sub(func(sub *api.Sub) { sub.Passes = -1 }),
		"Taken too great": sub(func(sub *api.Sub) { sub.Taken++ }), "Taken too small": sub(func(sub *api.Sub) { sub.Taken-- }), "Fires too great": sub(func(sub *api.Sub) { sub.Fires++ }), "Over too great": sub(func(sub *api.Sub) { sub.Over++ }),
		"Fires below 0":       sub(func(sub *api.Sub) { sub.Fires, sub.Over = -1, 5 }),
		"Over below 0":        sub(func(sub *api.Sub) { sub.Fires, sub.Over = 5, -1 }),
		"Taken below 0":       sub(func(sub *api.Sub) { sub.Taken, sub.Fires, sub.Insts = -1, -1, nil }),
		"a sum around":        sub(func(sub *api.Sub) { sub.Taken, sub.Fires, sub.Over = 1, math.MaxInt, math.MaxInt }),
		"a sum around to 0":   sub(func(sub *api.Sub) { sub.Taken, sub.Fires, sub.Over, sub.Insts = 0, math.MaxInt, math.MaxInt, nil }),
		"a sum one too great": sub(func(sub *api.Sub) { sub.Taken, sub.Fires, sub.Over, sub.Insts = math.MinInt, math.MaxInt, 1, nil }),
	}
}

func everyCallRefuses(t *testing.T, what string, s api.Router) {
	t.Helper()
	check := func(call string, got api.Router, e api.Errno, rest bool) {
		t.Helper()
		if e != api.ErrArg || !route.Same(got, s) || !rest {
			t.Errorf("%s of %s: %d", call, what, e)
		}
	}
	got, n, e := route.Publish(s, lay(ev("a.b", "q", 1, 0)))
	check("Publish", got, e, n == 0)
	got, e = route.Subscribe(s, def("q"))
	check("Subscribe", got, e, true)
	got, e = route.Unsubscribe(s, "z")
	check("Unsubscribe", got, e, true)
	got, n, e = route.Step(s, "z", true)
	check("Step", got, e, n == 0)
	got, n, e = route.Redrive(s, "c")
	check("Redrive", got, e, n == 0)
	x, e := route.Relay(s)
	check("Relay", s, e, x.Id == 0 && x.Ids == nil)
	got, e = route.Ack(s, 2)
	check("Ack", got, e, true)
	got, up, e := route.Nack(s, 2)
	check("Nack", got, e, !up)
	got, e = route.Resend(s, 1)
	check("Resend", got, e, true)
	got, e = route.Tick(s, 1)
	check("Tick", got, e, true)
	got, e = route.Retain(s)
	check("Retain", got, e, true)
	n, e = route.Unread(s, "z")
	check("Unread", s, e, n == 0)
}

func TestSame(t *testing.T) { // P16.1
	if !route.Same(rich(t), rich(t)) || !route.Same(api.Router{}, api.Router{Topics: []api.Topic{}, Subs: []api.Sub{}, Out: []api.Out{}, Dead: []api.Dead{}}) {
		t.Error("Same of the same")
	}
	changes := spoilers()
	for i, change := range []func(s *api.Router){
		func(s *api.Router) { s.Topics[0].Name = "a.a" }, func(s *api.Router) { s.Topics[0].Log[1] = "" }, func(s *api.Router) { s.Topics = s.Topics[:1] }, func(s *api.Router) { s.Lasts[0].Offset++ }, func(s *api.Router) { s.Lasts[0].Producer = "q" },
		func(s *api.Router) { s.Subs = s.Subs[:2] }, func(s *api.Router) { s.Subs[0].D.Key = "q" }, func(s *api.Router) { s.Subs[1].Insts[0].L[0].Part = 1 - s.Subs[1].Insts[0].L[0].Part }, func(s *api.Router) { s.Subs[1].Insts[0].Key.N++ }, func(s *api.Router) { s.Subs[0].Fails++ },
		func(s *api.Router) { s.Subs[0].Passes++ }, func(s *api.Router) { s.Now++ }, func(s *api.Router) { s.Total++ }, func(s *api.Router) { s.Out[0].Due++ }, func(s *api.Router) { s.Given[0].Sub = "q" }, func(s *api.Router) { s.Out, s.Given = s.Given, s.Out }, func(s *api.Router) { s.Dead = nil },
	} {
		changes[fmt.Sprint("change ", i)] = change
	}
	for what, change := range changes {
		s := rich(t)
		change(&s)
		if route.Same(rich(t), s) || route.Same(s, rich(t)) {
			t.Errorf("Same with %s", what)
		}
	}
}

func TestPublish(t *testing.T) { // P16.2
	r := newRig(t)
	for i, c := range []struct {
		e    api.Event
		want int
	}{{ev("a.b", "p", 1, 1), 0}, {ev("a.b", "q", 1, 1), 1}, {ev("c", "p", 2, 1), 0}, {ev("a.b", "p", 3, 1), 2}} {
		s, n, e := route.Publish(r.s, lay(c.e))
		if n != c.want {
			t.Fatalf("the %d. Publish: %d, %d", i, n, e)
		}
		r.put(s, e)
	}
	if want := []api.Last{{Producer: "p", Seq: 3, Offset: 2}, {Producer: "q", Seq: 1, Offset: 1}}; !slices.Equal(r.s.Lasts, want) {
		t.Errorf("Lasts: %v", r.s.Lasts)
	}
	if l := r.s.Topics; len(l) != 2 || !slices.Equal(l[0].Log, []string{lay(ev("a.b", "p", 1, 1)), lay(ev("a.b", "q", 1, 1)), lay(ev("a.b", "p", 3, 1))}) || !slices.Equal(l[1].Log, []string{lay(ev("c", "p", 2, 1))}) {
		t.Errorf("Topics: %v", l)
	}
	good := lay(ev("a.b", "p", 4, 1))
	for octets, want := range map[string]api.Errno{
		"": api.ErrShort, good[:5]: api.ErrShort, good + "\x00": api.ErrForm, "\x80\x00": api.ErrForm, "u": api.ErrForm, "\x28": api.ErrShort, lay(ev("z", "p", 3, 1)) + "x": api.ErrForm,
		lay(ev("z", "p", 5, 1)): api.ErrGap, lay(ev("z", "p", 2, 1)): api.ErrLate, lay(ev("z", "r", 2, 1)): api.ErrGap,
	} {
		s, n, e := route.Publish(r.s, octets)
		r.refused(fmt.Sprintf("Publish of %q", octets), s, e, want)
		if n != 0 {
			t.Errorf("Publish of %q tells %d", octets, n)
		}
	}
	s, n, e := route.Publish(r.s, lay(ev("z", "p", 3, 9)))
	r.refused("Publish again", s, e, api.ErrThere)
	if n != 2 {
		t.Errorf("Publish again: %d", n)
	}
}

func TestPublishWithoutRoom(t *testing.T) { // P16.2
	r := newRig(t)
	for range api.MaxLog {
		r.publish("a.b", 1)
	}
	s, n, e := route.Publish(r.s, lay(ev("a.b", "p", 101, 1)))
	r.refused("the 101st of a topic", s, e, api.ErrFull)
	s, m, e := route.Publish(r.s, lay(ev("a.b", "p", 100, 1)))
	r.refused("the hundredth again", s, e, api.ErrThere)
	if n != 0 || m != 99 {
		t.Errorf("told %d, and %d", n, m)
	}
	r = newRig(t)
	for i := range api.MaxProducers {
		s, _, e := route.Publish(r.s, lay(ev("a.b", fmt.Sprint("p", i), 1, 1)))
		r.put(s, e)
	}
	s, n, e = route.Publish(r.s, lay(ev("a.b", "q", 1, 1)))
	r.refused("the 51st producer", s, e, api.ErrFull)
	if n != 0 {
		t.Errorf("told %d", n)
	}
	r = newRig(t)
	for i := range api.MaxTopics {
		r.publish(fmt.Sprint("t", i), 1)
	}
	s, _, e = route.Publish(r.s, lay(ev("u", "p", 21, 1)))
	r.refused("the 21st topic", s, e, api.ErrFull)
}

func TestSubscribe(t *testing.T) { // P16.3
	r := newRig(t, anyDef("m", "a"), anyDef("z", "a"), anyDef("b", "a"))
	r.publish("a", 1)
	s, e := route.Subscribe(r.s, def("c"))
	r.put(s, e)
	names := ""
	for _, sub := range r.s.Subs {
		names += sub.D.Name
		if !route.Same(api.Router{Subs: []api.Sub{sub}}, api.Router{Subs: []api.Sub{{D: sub.D}}}) {
			t.Errorf("%v has read something", sub)
		}
	}
	if names != "bcmz" || !offs.Same(r.sub("c").D, def("c")) {
		t.Errorf("subscriptions: %s", names)
	}
	s, e = route.Subscribe(r.s, api.Def{Name: "b"})
	r.refused("a definition that may not be", s, e, api.ErrArg)
	for _, name := range []string{"b", "m", "z"} {
		s, e = route.Subscribe(r.s, anyDef(name, "b"))
		r.refused("a name that is there", s, e, api.ErrThere)
	}
	for _, name := range []string{"d", "e", "f", "g"} {
		s, e = route.Subscribe(r.s, anyDef(name, "a"))
		r.put(s, e)
	}
	s, e = route.Subscribe(r.s, anyDef("h", "a"))
	r.refused("the ninth", s, e, api.ErrFull)
	s, e = route.Subscribe(r.s, anyDef("g", "a"))
	r.refused("a name that is there, among eight", s, e, api.ErrThere)
}

func TestUnsubscribe(t *testing.T) { // P16.3
	r := newRig(t, anyDef("s", "a"), anyDef("t", "a"))
	r.publish("a", 1)
	r.publish("a", 2)
	r.step("s", true, api.Fired)
	for _, name := range []string{"s", "t"} {
		r.step(name, false, api.Failed)
		r.step(name, false, api.Failed)
		r.step(name, false, api.Died)
	}
	s, e := route.Unsubscribe(r.s, "q")
	r.refused("Unsubscribe of none", s, e, api.ErrNone)
	before := r.s
	s, e = route.Unsubscribe(r.s, "s")
	r.put(s, e)
	if len(r.s.Subs) != 1 || r.s.Subs[0].D.Name != "t" || len(r.s.Dead) != 1 || r.s.Dead[0].Sub != "t" || len(r.s.Out) != 1 || len(r.s.Topics[0].Log) != 2 {
		t.Errorf("what is left: %v", r.s)
	}
	if len(before.Subs) != 2 || len(before.Dead) != 2 || before.Dead[0].Sub != "s" {
		t.Error("Unsubscribe changed what was handed in")
	}
}
