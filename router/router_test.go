package router_test

import (
	"fmt"
	"math"
	"strings"
	"sync"
	"testing"

	"tryst/api"
	"tryst/disk"
	"tryst/event"
	"tryst/keep"
	"tryst/pred"
	"tryst/route"
	"tryst/router"
	"tryst/shelf"
)

var small = api.Halves{Log: 8, Text: 12}

func number(n int64) api.Value { return api.Value{Num: true, N: n} }

// def waits for all of two parts, has(x) and all, by the key k, for 5.
func def(name string) api.Def {
	return api.Def{
		Name: name, Globs: []string{"a.*"}, Key: "k", Where: []api.Pred{{Op: "has", S: "x"}, {Op: "all"}},
		J: api.Join{Kind: "all", Parts: 2, Window: 5},
	}
}

func lay(topic string, seq uint64, key int64, fields ...string) string {
	e := api.Event{Topic: topic, Producer: "p", Seq: seq}
	if key != 0 {
		e = event.Put(e, "k", number(key))
	}
	for _, f := range fields {
		e = event.Put(e, f, number(1))
	}
	s, errno := event.Lay(e)
	if errno != api.OK {
		panic(fmt.Sprint(e, " may not be"))
	}
	return s
}

func subscribe(name string) api.Op { return api.Op{Kind: api.Subscribe, D: def(name)} }

func publish(seq uint64, key int64, fields ...string) api.Op {
	return api.Op{Kind: api.Publish, S: lay("a.b", seq, key, fields...)}
}

func step(name string, ok bool) api.Op { return api.Op{Kind: api.Step, S: name, Ok: ok} }

func newEngine(t *testing.T, h api.Halves) *router.Engine {
	t.Helper()
	x, e := router.New(h)
	if e != api.OK {
		t.Fatalf("New: %d", e)
	}
	return x
}

func open(t *testing.T, d api.Drive, h api.Halves) *router.Engine {
	t.Helper()
	x, e := router.Open(d, h)
	if e != api.OK {
		t.Fatalf("Open: %d", e)
	}
	return x
}

// do does an operation that is to be told that.
func do(t *testing.T, x *router.Engine, o api.Op, n int, e api.Errno) {
	t.Helper()
	if told, errno := x.Do(o); told != (api.Told{N: n, E: e}) || errno != api.OK {
		t.Fatalf("Do(%v): %v, %d, want %d, %d", o, told, errno, n, e)
	}
}

// hasKept checks that what is opened is the router that the engine has.
func hasKept(t *testing.T, x *router.Engine, h api.Halves) {
	t.Helper()
	if o := open(t, x.Drive(), h); !route.Same(o.State(), x.State()) {
		t.Fatalf("opened there is %v, want %v", o.State(), x.State())
	}
}

func TestNew(t *testing.T) { // P21.1
	x := newEngine(t, small)
	if !route.Same(x.State(), api.Router{}) {
		t.Errorf("New has %v", x.State())
	}
	hasKept(t, x, small)
	k, e := keep.Open(x.Drive(), small)
	if e != api.OK || k.Text() != strings.Repeat("\x00", 8) || len(k.Records()) != 0 || k.Gen() != 1 {
		t.Errorf("New keeps %q, %d", k.Text(), e)
	}
	for _, h := range []api.Halves{{}, {Log: 1}, {Log: -1, Text: 1}, {Log: 1501, Text: 1}, {Log: 1, Text: math.MaxInt}} {
		if x, e := router.New(h); x != nil || e != api.ErrArg {
			t.Errorf("New(%v): %d", h, e)
		}
	}
}

func TestNewAtOnce(t *testing.T) { // P21.1, R4
	var all sync.WaitGroup
	for range 8 {
		all.Go(func() {
			if x, e := router.New(small); e != api.OK || !route.Same(x.State(), api.Router{}) {
				t.Errorf("New: %d", e)
			}
		})
	}
	all.Wait()
}

func TestOpen(t *testing.T) { // P21.1
	s := api.Router{Now: 5}
	laid, _ := shelf.Lay(s)
	op, _ := shelf.LayOp(api.Op{Kind: api.Tick, N: 4})
	refusedOp, _ := shelf.LayOp(api.Op{Kind: api.Ack, Id: 7})
	keepOf := func(text string, records ...string) api.Drive {
		k, e := keep.New(small, text)
		if e != api.OK {
			t.Fatalf("New: %d", e)
		}
		for _, r := range records {
			if e := k.Add(r); e != api.OK {
				t.Fatalf("Add: %d", e)
			}
		}
		return k.Drive()
	}
	for want, d := range map[int]api.Drive{5: keepOf(laid), 9: keepOf(laid, op), 13: keepOf(laid, op, refusedOp, op)} {
		if x := open(t, d, small); !route.Same(x.State(), api.Router{Now: want}) {
			t.Errorf("Open: %v, want Now %d", x.State(), want)
		}
	}
	off := keepOf(laid)
	off.Off = true
	empty, _ := disk.New(keep.Size(small))
	for _, c := range []struct {
		what string
		d    api.Drive
		h    api.Halves
		want api.Errno
	}{
		{"no router", keepOf("abc"), small, api.ErrBad}, {"no text", keepOf(""), small, api.ErrBad}, {"a router and more", keepOf(laid + "\x00"), small, api.ErrBad}, {"no operation", keepOf(laid, "abc"), small, api.ErrBad}, {"an empty record", keepOf(laid, op, ""), small, api.ErrBad},
		{"no router, and no operation", keepOf("abc", "abc"), small, api.ErrBad}, {"no halves", keepOf(laid), api.Halves{}, api.ErrArg}, {"other halves", keepOf(laid), api.Halves{Log: 8, Text: 11}, api.ErrArg}, {"no drive", api.Drive{}, small, api.ErrArg},
		{"no power", off, small, api.ErrPower}, {"nothing", empty, small, api.ErrNone},
	} {
		if x, e := router.Open(c.d, c.h); x != nil || e != c.want {
			t.Errorf("Open of %s: %d, want %d", c.what, e, c.want)
		}
	}
}

func TestDo(t *testing.T) { // P21.2
	x := newEngine(t, small)
	do(t, x, subscribe("s"), 0, api.OK)
	do(t, x, subscribe("s"), 0, api.ErrThere)
	do(t, x, publish(1, 1, "x"), 0, api.OK)
	do(t, x, publish(1, 1, "x"), 0, api.ErrThere)
	do(t, x, publish(2, 1), 1, api.OK)
	do(t, x, publish(2, 1), 1, api.ErrThere)
	do(t, x, publish(4, 1), 0, api.ErrGap)
	if n, e := x.Unread("s"); n != 2 || e != api.OK {
		t.Errorf("Unread: %d, %d", n, e)
	}
	if n, e := x.Unread("q"); n != 0 || e != api.ErrNone {
		t.Errorf("Unread of none: %d, %d", n, e)
	}
	if out, e := x.Relay(); out.Id != 0 || e != api.ErrNone {
		t.Errorf("Relay of none: %v, %d", out, e)
	}
	do(t, x, step("s", true), api.Waits, api.OK)
	do(t, x, step("s", false), api.Failed, api.OK)
	do(t, x, step("s", true), api.Fired, api.OK)
	do(t, x, step("s", true), api.Nothing, api.OK)
	if out, e := x.Relay(); out.Id != 1 || len(out.Ids) != 2 || e != api.OK {
		t.Errorf("Relay: %v, %d", out, e)
	}
	for range 4 {
		do(t, x, api.Op{Kind: api.Nack, Id: 1}, 0, api.OK)
	}
	do(t, x, api.Op{Kind: api.Nack, Id: 1}, 1, api.OK)
	do(t, x, api.Op{Kind: 0}, 0, api.ErrArg)
	do(t, x, api.Op{Kind: api.Publish, S: "u"}, 0, api.ErrForm)
	do(t, x, api.Op{Kind: api.Publish, S: "\x01"}, 0, api.ErrShort)
	hasKept(t, x, small)
}

func TestWhatChangesNothingIsNotKept(t *testing.T) { // P21.2
	x := newEngine(t, small)
	do(t, x, subscribe("s"), 0, api.OK)
	if e := x.Fuel(0); e != api.OK {
		t.Fatalf("Fuel: %d", e)
	}
	for _, o := range []api.Op{step("q", true), subscribe("s"), {Kind: api.Publish, S: "x"}, {Kind: api.Ack, Id: 1}, {}} {
		if told, e := x.Do(o); told.E == api.OK || e != api.OK {
			t.Errorf("Do(%v): %v, %d", o, told, e)
		}
	}
	do(t, x, step("s", true), api.Nothing, api.OK)
	do(t, x, api.Op{Kind: api.Tick}, 0, api.OK)
	do(t, x, api.Op{Kind: api.Retain}, 0, api.OK)
	if x.Drive().Off {
		t.Error("something was written")
	}
	if k, _ := keep.Open(x.Drive(), small); len(k.Records()) != 1 {
		t.Errorf("%d records", len(k.Records()))
	}
}

func TestDoWithoutPower(t *testing.T) { // P21.2
	x := newEngine(t, small)
	do(t, x, subscribe("s"), 0, api.OK)
	before := x.State()
	x.Fuel(0)
	for range 2 {
		if told, e := x.Do(publish(1, 1)); told != (api.Told{}) || e != api.ErrPower || !route.Same(x.State(), before) {
			t.Errorf("Do without power: %v, %d", told, e)
		}
	}
	do(t, x, step("s", true), api.Nothing, api.OK)
	if e := x.Save(); e != api.ErrPower {
		t.Errorf("Save without power: %d", e)
	}
	if _, e := router.Open(x.Drive(), small); e != api.ErrPower {
		t.Errorf("Open without power: %d", e)
	}
	x = open(t, disk.Crash(x.Drive(), api.Loss{}), small)
	if !route.Same(x.State(), before) {
		t.Errorf("behind a crash: %v", x.State())
	}
	do(t, x, publish(1, 1), 0, api.OK)
}

func TestTheLogIsMadeEmptyOnceItIsFull(t *testing.T) { // P21.2 (Words)
	x := newEngine(t, small)
	do(t, x, subscribe("s"), 0, api.OK)
	gens := map[int]bool{}
	for seq := range uint64(30) {
		do(t, x, publish(seq+1, 0), int(seq), api.OK)
		do(t, x, step("s", true), api.Passed, api.OK)
		do(t, x, api.Op{Kind: api.Retain}, 0, api.OK)
		hasKept(t, x, small)
		k, _ := keep.Open(x.Drive(), small)
		gens[k.Gen()] = true
	}
	if len(gens) < 5 {
		t.Errorf("saved by %v", gens)
	}
	x = newEngine(t, small)
	for range 8 {
		do(t, x, api.Op{Kind: api.Tick, N: 1}, 0, api.OK)
	}
	do(t, x, api.Op{Kind: api.Tick, N: 100}, 0, api.OK)
	k, _ := keep.Open(x.Drive(), small)
	if s, e := shelf.Take(k.Text()); s.Now != 8 || e != api.OK || len(k.Records()) != 1 || k.Gen() != 2 {
		t.Errorf("what was saved is %v, %d, and there are %d records", s, e, len(k.Records()))
	}
}

// longSubscribe is an operation that has two cells.
func longSubscribe(name string) api.Op {
	o := subscribe(name)
	o.D.Where[1] = api.Pred{Op: "eq", S: "k", V: api.Value{S: strings.Repeat("v", 50)}}
	return o
}

func TestDoWithoutRoom(t *testing.T) { // P21.2, P0.6
	h := api.Halves{Log: 2, Text: 1}
	x := newEngine(t, h)
	do(t, x, api.Op{Kind: api.Tick, N: 1}, 0, api.OK)
	before := x.State()
	if told, e := x.Do(longSubscribe("s")); told != (api.Told{}) || e != api.OK {
		t.Errorf("a Subscribe of two cells: %v, %d", told, e)
	} else if k, _ := keep.Open(x.Drive(), h); k.Gen() != 2 {
		t.Errorf("it was not saved: Gen %d", k.Gen())
	}
	if route.Same(x.State(), before) {
		t.Error("nothing was done")
	}
	hasKept(t, x, h)
	before = x.State()
	if told, e := x.Do(longSubscribe("t")); told != (api.Told{}) || e != api.ErrFull || !route.Same(x.State(), before) { // the text has no room
		t.Errorf("a Subscribe for which there is no room: %v, %d", told, e)
	}
	hasKept(t, x, h)
	if e := x.Save(); e != api.ErrFull {
		t.Errorf("Save without room: %d", e)
	}
	hasKept(t, x, h)

	h = api.Halves{Log: 1, Text: 5}
	x = newEngine(t, h)
	if told, e := x.Do(longSubscribe("s")); told != (api.Told{}) || e != api.ErrFull || !route.Same(x.State(), api.Router{}) { // the log never has
		t.Errorf("a Subscribe that is longer than the log: %v, %d", told, e)
	}
	hasKept(t, x, h)
	do(t, x, api.Op{Kind: api.Tick, N: 1}, 0, api.OK)
	hasKept(t, x, h)
}

func TestAnOperationThatIsNoRecord(t *testing.T) { // P21.2
	leaf := api.Pred{Op: "eq", S: strings.Repeat("f", 16), V: api.Value{S: strings.Repeat(`"`, 60)}}
	wide := leaf
	for range 4 {
		wide = api.Pred{Op: "and", L: []api.Pred{wide, wide}}
	}
	d := def("s")
	d.Where = []api.Pred{wide, wide}
	if text, e := pred.Text(wide); len(text) < 2000 || e != api.OK {
		t.Fatalf("a text of %d octets, %d", len(text), e)
	}
	h := api.Halves{Log: 1500, Text: 1000}
	x := newEngine(t, h)
	if told, e := x.Do(api.Op{Kind: api.Subscribe, D: d}); told != (api.Told{}) || e != api.ErrArg || !route.Same(x.State(), api.Router{}) {
		t.Errorf("a Subscribe of more octets than a record has: %v, %d", told, e)
	}
	hasKept(t, x, h)
}

func TestSaveAndDrive(t *testing.T) { // P21.3
	x := newEngine(t, small)
	do(t, x, subscribe("s"), 0, api.OK)
	do(t, x, api.Op{Kind: api.Tick, N: 3}, 0, api.OK)
	if e := x.Save(); e != api.OK {
		t.Errorf("Save: %d", e)
	}
	k, _ := keep.Open(x.Drive(), small)
	if s, e := shelf.Take(k.Text()); !route.Same(s, x.State()) || e != api.OK || len(k.Records()) != 0 || k.Gen() != 2 {
		t.Errorf("Save keeps %v, %d", s, e)
	}
	if s := x.State(); s.Now != 3 || len(s.Subs) != 1 {
		t.Errorf("State: %v", s)
	}
	if e := x.Fuel(-2); e != api.ErrArg {
		t.Errorf("Fuel: %d", e)
	}
	if e := x.Fuel(9); e != api.OK || x.Drive().Fuel != 9 {
		t.Errorf("Fuel: %d", e)
	}
}

func TestSaveOfCountsThatWentAround(t *testing.T) { // P21.3
	s, _ := route.Subscribe(api.Router{Total: math.MaxInt}, api.Def{Name: "s", Globs: []string{"a"}, Where: []api.Pred{{Op: "all"}}, J: api.Join{Kind: "any", Parts: 1}})
	text, _ := shelf.Lay(s)
	k, _ := keep.New(small, text)
	x := open(t, k.Drive(), small)
	do(t, x, api.Op{Kind: api.Publish, S: lay("a", 1, 1)}, 0, api.OK)
	do(t, x, step("s", true), api.Fired, api.OK)
	if x.State().Total != math.MinInt || route.Check(x.State()) != api.ErrArg {
		t.Errorf("Total: %d", x.State().Total)
	}
	hasKept(t, x, small)
	do(t, x, api.Op{Kind: api.Tick, N: 1}, 0, api.ErrArg)
	if e := x.Save(); e != api.ErrArg {
		t.Errorf("Save: %d", e)
	}
	hasKept(t, x, small)
}

func TestExamples(t *testing.T) { // P21.4, examples
	x := newEngine(t, small)
	do(t, x, subscribe("s"), 0, api.OK)
	do(t, x, publish(1, 1, "x"), 0, api.OK)
	x = open(t, x.Drive(), small)
	if n, e := x.Unread("s"); n != 1 || e != api.OK {
		t.Errorf("Unread: %d, %d", n, e)
	}
	do(t, x, step("s", true), api.Waits, api.OK)
	x = open(t, x.Drive(), small)
	if l := x.State().Subs[0].Insts; len(l) != 1 || len(l[0].L) != 1 {
		t.Errorf("what waits: %v", l)
	}
	do(t, x, step("q", true), 0, api.ErrNone)
}
