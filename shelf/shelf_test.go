package shelf_test

import (
	"fmt"
	"math"
	"math/rand"
	"strings"
	"testing"

	"tryst/api"
	"tryst/event"
	"tryst/route"
	"tryst/shelf"
)

func number(n int64) api.Value { return api.Value{Num: true, N: n} }

// def waits for what has x, and for whatever, by the key k.
func def(name string) api.Def {
	return api.Def{
		Name: name, Globs: []string{"a.*", "b"}, Key: "k", Where: []api.Pred{{Op: "has", S: "x"}, {Op: "not", L: []api.Pred{{Op: "eq", S: "y", V: api.Value{S: `q"`}}}}},
		J: api.Join{Kind: "all", Parts: 2, Window: 300},
	}
}

const defOctets = "\x01s" + "\x02\x03a.*\x01b" + "\x02\x06has(x)\x11(not (y = \"q\\\"\"))" + "\x01k" + "\x03all" + "\x04\x00\xd8\x04"

func lay(t *testing.T, topic string, seq uint64, fields ...api.Field) string {
	t.Helper()
	e := api.Event{Topic: topic, Producer: "p", Seq: seq}
	for _, f := range fields {
		e = event.Put(e, f.Name, f.V)
	}
	s, errno := event.Lay(e)
	if errno != api.OK {
		t.Fatalf("Lay(%v): %d", e, errno)
	}
	return s
}

// plain is a router in which there is one of each.
func plain(t *testing.T) api.Router {
	return api.Router{
		Now: 7, Topics: []api.Topic{{Name: "a.b", First: 3, Log: []string{lay(t, "a.b", 9)}}}, Lasts: []api.Last{{Producer: "p", Seq: 200, Offset: 3}},
		Subs: []api.Sub{{
			D: def("s"), Offs: []api.Off{{Topic: "a.b", Next: 4}}, Insts: []api.Inst{{Key: number(-2), L: []api.Kept{{Part: 0, Id: 130, At: 6}}}},
			Fails: 2, Taken: 140, Passes: 11, Fires: 100, Over: 39,
		}},
		Total: 90, Out: []api.Out{{Id: 90, Sub: "s", Ids: []uint64{1, 300}, Tries: 3, Due: 8}}, Given: []api.Out{{Id: 89, Sub: "q", Ids: []uint64{0}, Tries: 4}}, Dead: []api.Dead{{Sub: "s", E: lay(t, "b", 1)}},
	}
}

const plainOctets = "\x0e" + "\x01\x03a.b\x06\x01\x08\x03a.b\x01p\x09\x00" + "\x01\x01p\xc8\x01\x06" +
	"\x01" + defOctets + "\x01\x03a.b\x08" + "\x01\x01\x03\x01\x00\x82\x01\x0c" + "\x04\x98\x02\x16\xc8\x01\x4e" +
	"\xb4\x01" + "\x01\x5a\x01s\x02\x01\xac\x02\x06\x10" + "\x01\x59\x01q\x01\x00\x08\x00" + "\x01\x01s\x06\x01b\x01p\x01\x00"

func TestLay(t *testing.T) { // P20.1
	for octets, s := range map[string]api.Router{strings.Repeat("\x00", 8): {}, plainOctets: plain(t)} {
		if got, e := shelf.Lay(s); got != octets || e != api.OK {
			t.Errorf("Lay(%v): %q, %d, want %q", s, got, e, octets)
		}
		if got, e := shelf.Take(octets); !route.Same(got, s) || e != api.OK {
			t.Errorf("Take(%q): %v, %d", octets, got, e)
		}
	}
	for what, change := range map[string]func(s *api.Router){
		"no time": func(s *api.Router) { s.Now = -1 }, "a Total too small": func(s *api.Router) { s.Total = 1 }, "dead of none": func(s *api.Router) { s.Dead[0].Sub = "q" }, "a bad event": func(s *api.Router) { s.Topics[0].Log[0] += "x" },
		"a bad predicate": func(s *api.Router) { s.Subs[0].D.Where[0].Op = "" }, "Taken": func(s *api.Router) { s.Subs[0].Taken++ },
	} {
		s := plain(t)
		change(&s)
		if got, e := shelf.Lay(s); got != "" || e != api.ErrArg {
			t.Errorf("Lay with %s: %q, %d", what, got, e)
		}
	}
}

func TestTakeRefuses(t *testing.T) { // P20.1
	refused := func(octets string) {
		t.Helper()
		if s, e := shelf.Take(octets); !route.Same(s, api.Router{}) || e != api.ErrForm {
			t.Errorf("Take(%.40q): %v, %d", octets, s, e)
		}
	}
	zero := strings.Repeat("\x00", 8)
	for _, octets := range []string{
		"", zero[1:], zero + "\x00", "\x80" + zero, "\x80\x00" + zero[1:], "\x01" + zero[1:], "\x00\x01" + zero[2:], plainOctets + "\x00", strings.Repeat("\xff", 100), strings.Repeat("\x00", 1000000),
		"\x00" + strings.Repeat("\xff", 9) + "\x01" + strings.Repeat("\x00", 1000), "\x00\xff\xff\xff\x7f" + strings.Repeat("\x00", 100000), "\x00\x01\xff\xff\xff\xff\x7fa",
	} {
		refused(octets)
	}
	for i := range plainOctets {
		refused(plainOctets[:i])
		refused(plainOctets[i+1:])
	}
	for _, c := range [][2]string{
		{"has(x)", "has(X)"}, {"\x06has(x)", "\x07has(x) "}, {"\x03all\x04", "\x03any\x04"}, {"\x04\x98\x02", "\x06\x98\x02"}, {"\x98\x02", "\x9a\x02"}, {"\xb4\x01\x01\x5a", "\xb2\x01\x01\x5a"}, {"\x01\x59", "\x01\x5a"},
		{"\x01\x01\x03\x01\x00", "\x01\x03\x03\x01\x00"}, {"\x01\x03a.b\x08", "\x01\x03a.b\x0a"}, {"\x01\x03a.b\x08", "\x01\x03a.c\x08"}, {"\xb4\x01", "\xb4\x81\x00"},
	} {
		if !strings.Contains(plainOctets, c[0]) {
			t.Fatalf("there is no %q", c[0])
		}
		refused(strings.Replace(plainOctets, c[0], c[1], 1))
	}
}

func ops() []api.Op {
	return []api.Op{
		{Kind: api.Publish, S: "abc"}, {Kind: api.Publish}, {Kind: api.Publish, S: strings.Repeat("x", 2000)}, {Kind: api.Subscribe, D: def("s")}, {Kind: api.Subscribe, D: def("t"), S: "s", Ok: true, Id: 1, N: 1}, {Kind: api.Unsubscribe, S: "s"},
		{Kind: api.Step, S: "s", Ok: true}, {Kind: api.Step, S: "s"}, {Kind: api.Redrive, S: "s"}, {Kind: api.Ack, Id: 7}, {Kind: api.Nack, Id: math.MaxUint64}, {Kind: api.Resend, Id: 1 << 63},
		{Kind: api.Tick, N: 5}, {Kind: api.Tick, N: -5}, {Kind: api.Tick, N: math.MaxInt}, {Kind: api.Tick, N: math.MinInt}, {Kind: api.Retain}, {Kind: api.Retain, S: "\xff", Ok: true, Id: 3, N: 4},
	}
}

func mayNot() []api.Op {
	long := def("s")
	long.Where = nil
	return []api.Op{
		{}, {Kind: -1}, {Kind: 11}, {Kind: math.MaxInt}, {Kind: math.MinInt}, {Kind: api.Publish, S: strings.Repeat("x", 2001)}, {Kind: api.Subscribe}, {Kind: api.Subscribe, D: long}, {Kind: api.Subscribe, D: def("s"), S: strings.Repeat("x", 2001)},
		{Kind: api.Publish, D: def("s")}, {Kind: api.Retain, D: api.Def{Name: "s"}}, {Kind: api.Step, D: api.Def{Key: "k"}}, {Kind: api.Tick, D: api.Def{J: api.Join{Window: 1}}}, {Kind: api.Ack, D: api.Def{Globs: []string{""}}}, {Kind: api.Ack, D: api.Def{Where: []api.Pred{{}}}},
	}
}

func TestOperations(t *testing.T) { // P20.2
	for i, o := range ops() {
		if !shelf.May(o) {
			t.Errorf("May(%v) is false", o)
		}
		octets, e := shelf.LayOp(o)
		if got, f := shelf.TakeOp(octets); !shelf.Same(got, o) || e != api.OK || f != api.OK {
			t.Errorf("TakeOp(LayOp(%v)): %v, %d, %d", o, got, e, f)
		}
		for j, p := range ops() {
			laid, _ := shelf.LayOp(p)
			if shelf.Same(o, p) != (i == j) || (laid == octets) != (i == j) {
				t.Errorf("Same(%v, %v) is %t, and their octets %q, %q", o, p, shelf.Same(o, p), octets, laid)
			}
		}
	}
	for _, o := range mayNot() {
		if shelf.May(o) {
			t.Errorf("May(%.50v) is true", o)
		}
		if octets, e := shelf.LayOp(o); octets != "" || e != api.ErrArg {
			t.Errorf("LayOp(%.50v): %q, %d", o, octets, e)
		}
	}
	if !shelf.May(api.Op{Kind: api.Retain, D: api.Def{Globs: []string{}, Where: []api.Pred{}}}) {
		t.Error("a definition with empty lists is not zero")
	}
	other := api.Op{Kind: api.Subscribe, D: def("s")}
	other.D.Where[1].L[0].V.S = "r"
	if shelf.Same(api.Op{Kind: api.Subscribe, D: def("s")}, other) {
		t.Error("Same of another definition")
	}
}

func TestLayOp(t *testing.T) { // P20.2
	for octets, o := range map[string]api.Op{
		"\x14\x00\x00\x00\x00": {Kind: api.Retain}, "\x02\x03abc\x00\x00\x00": {Kind: api.Publish, S: "abc"}, "\x08\x01s\x01\x00\x00": {Kind: api.Step, S: "s", Ok: true}, "\x0e\x00\x00\xc8\x01\x00": {Kind: api.Nack, Id: 200}, "\x12\x00\x00\x00\x09": {Kind: api.Tick, N: -5},
		"\x04\x00\x00\x00\x00" + defOctets: {Kind: api.Subscribe, D: def("s")},
	} {
		if got, e := shelf.LayOp(o); got != octets || e != api.OK {
			t.Errorf("LayOp(%v): %q, %d", o, got, e)
		}
		for i := range octets {
			if got, e := shelf.TakeOp(octets[:i]); !shelf.Same(got, api.Op{}) || e != api.ErrForm {
				t.Errorf("TakeOp(%q): %v, %d", octets[:i], got, e)
			}
		}
	}
	for _, octets := range []string{
		"\x00\x00\x00\x00\x00", "\x16\x00\x00\x00\x00", "\x01\x00\x00\x00\x00", "\x15\x00\x00\x00\x00", "\x14\x00\x02\x00\x00", "\x14\x00\xff\x00\x00", "\x14\x00\x00\x00\x00\x00", "\x94\x00\x00\x00\x00\x00", "\x14\x00\x00\x80\x00\x00",
		"\x14\x00\x00\x00\x00" + defOctets, "\x04\x00\x00\x00\x00" + strings.Repeat("\x00", 8), "\x02\xd1\x0f" + strings.Repeat("x", 2001) + "\x00\x00\x00", "\x02\xff\xff\xff\xff\x7fx", "\x04\x00\x00\x00\x00" + defOctets + "\x00",
		"\x04\x00\x00\x00\x00" + strings.Replace(defOctets, "has(x)", "has(.)", 1), "\x04\x00\x00\x00\x00\x01s" + strings.Repeat("\xff", 9) + "\x01" + strings.Repeat("\x00", 99),
	} {
		if got, e := shelf.TakeOp(octets); !shelf.Same(got, api.Op{}) || e != api.ErrForm {
			t.Errorf("TakeOp(%.40q): %v, %d", octets, got, e)
		}
	}
}

func TestDo(t *testing.T) { // P20.3
	published := lay(t, "a.b", 1, api.Field{Name: "k", V: number(1)}, api.Field{Name: "x", V: number(1)})
	s := api.Router{}
	for i, c := range []struct {
		o    api.Op
		want func(s api.Router) (api.Router, int, api.Errno)
		n    int
		e    api.Errno
	}{
		{api.Op{Kind: api.Subscribe, D: def("s")}, func(s api.Router) (api.Router, int, api.Errno) { r, e := route.Subscribe(s, def("s")); return r, 0, e }, 0, api.OK},
		{api.Op{Kind: api.Subscribe, D: def("s")}, func(s api.Router) (api.Router, int, api.Errno) { r, e := route.Subscribe(s, def("s")); return r, 0, e }, 0, api.ErrThere},
		{api.Op{Kind: api.Publish, S: lay(t, "b", 1)}, func(s api.Router) (api.Router, int, api.Errno) { return route.Publish(s, lay(t, "b", 1)) }, 0, api.OK},
		{api.Op{Kind: api.Publish, S: "u"}, func(s api.Router) (api.Router, int, api.Errno) { return route.Publish(s, "u") }, 0, api.ErrForm},
		{api.Op{Kind: api.Publish, S: "\x01"}, func(s api.Router) (api.Router, int, api.Errno) { return route.Publish(s, "\x01") }, 0, api.ErrShort},
		{api.Op{Kind: api.Publish, S: strings.Replace(published, "\x01p\x01", "\x01p\x02", 1)}, func(s api.Router) (api.Router, int, api.Errno) {
			return route.Publish(s, strings.Replace(published, "\x01p\x01", "\x01p\x02", 1))
		}, 0, api.OK},
		{api.Op{Kind: api.Publish, S: strings.Replace(published, "\x01p\x01", "\x01p\x03", 1)}, func(s api.Router) (api.Router, int, api.Errno) {
			return route.Publish(s, strings.Replace(published, "\x01p\x01", "\x01p\x03", 1))
		}, 1, api.OK},
		{api.Op{Kind: api.Publish, S: strings.Replace(published, "\x01p\x01", "\x01p\x03", 1)}, func(s api.Router) (api.Router, int, api.Errno) {
			return route.Publish(s, strings.Replace(published, "\x01p\x01", "\x01p\x03", 1))
		}, 1, api.ErrThere},
		{api.Op{Kind: api.Step, S: "s", Ok: true}, func(s api.Router) (api.Router, int, api.Errno) { return route.Step(s, "s", true) }, api.Waits, api.OK},
		{api.Op{Kind: api.Step, S: "s"}, func(s api.Router) (api.Router, int, api.Errno) { return route.Step(s, "s", false) }, api.Failed, api.OK},
		{api.Op{Kind: api.Step, S: "s"}, func(s api.Router) (api.Router, int, api.Errno) { return route.Step(s, "s", false) }, api.Failed, api.OK},
		{api.Op{Kind: api.Step, S: "s"}, func(s api.Router) (api.Router, int, api.Errno) { return route.Step(s, "s", false) }, api.Died, api.OK},
		{api.Op{Kind: api.Redrive, S: "s"}, func(s api.Router) (api.Router, int, api.Errno) { return route.Redrive(s, "s") }, api.Waits, api.OK},
		{api.Op{Kind: api.Redrive, S: "s"}, func(s api.Router) (api.Router, int, api.Errno) { return route.Redrive(s, "s") }, 0, api.ErrNone},
		{api.Op{Kind: api.Tick, N: 4}, func(s api.Router) (api.Router, int, api.Errno) { r, e := route.Tick(s, 4); return r, 0, e }, 0, api.OK},
		{api.Op{Kind: api.Tick, N: -4}, func(s api.Router) (api.Router, int, api.Errno) { r, e := route.Tick(s, -4); return r, 0, e }, 0, api.ErrArg},
		{api.Op{Kind: api.Nack, Id: 1}, func(s api.Router) (api.Router, int, api.Errno) { r, _, e := route.Nack(s, 1); return r, 0, e }, 0, api.ErrNone},
		{api.Op{Kind: api.Retain}, func(s api.Router) (api.Router, int, api.Errno) { r, e := route.Retain(s); return r, 0, e }, 0, api.OK},
	} {
		want, n, e := c.want(s)
		got, m, f := shelf.Do(s, c.o)
		if !route.Same(got, want) || m != n || f != e || n != c.n || e != c.e {
			t.Errorf("the %d. Do: %d, %d, want %d, %d", i, m, f, c.n, c.e)
		}
		s = got
	}
	for _, o := range mayNot() {
		if got, n, e := shelf.Do(s, o); !route.Same(got, s) || n != 0 || e != api.ErrArg {
			t.Errorf("Do(%.50v): %d, %d", o, n, e)
		}
	}
	if got, n, e := shelf.Do(api.Router{Now: -1}, api.Op{Kind: api.Retain}); got.Now != -1 || n != 0 || e != api.ErrArg {
		t.Errorf("Do of a router that may not be: %v, %d, %d", got, n, e)
	}
}

func TestDoOfOutputs(t *testing.T) { // P20.3
	s := plain(t)
	do := func(o api.Op, n int, e api.Errno) {
		t.Helper()
		got, m, f := shelf.Do(s, o)
		if m != n || f != e || route.Check(got) != api.OK || e != api.OK && !route.Same(got, s) {
			t.Errorf("Do(%v): %d, %d, want %d, %d", o, m, f, n, e)
		}
		s = got
	}
	do(api.Op{Kind: api.Nack, Id: 90}, 0, api.OK)
	do(api.Op{Kind: api.Nack, Id: 90}, 1, api.OK)
	do(api.Op{Kind: api.Nack, Id: 90}, 0, api.ErrNone)
	if len(s.Out) != 0 || len(s.Given) != 2 {
		t.Errorf("given up: %v, %v", s.Out, s.Given)
	}
	do(api.Op{Kind: api.Resend, Id: 89}, 0, api.OK)
	do(api.Op{Kind: api.Resend, Id: 89}, 0, api.ErrNone)
	do(api.Op{Kind: api.Ack, Id: 89}, 0, api.OK)
	do(api.Op{Kind: api.Ack, Id: 89}, 0, api.ErrNone)
	do(api.Op{Kind: api.Unsubscribe, S: "s"}, 0, api.OK)
	do(api.Op{Kind: api.Unsubscribe, S: "s"}, 0, api.ErrNone)
	if len(s.Out) != 0 || len(s.Given) != 1 || len(s.Subs) != 0 || len(s.Dead) != 0 {
		t.Errorf("what is left: %v", s)
	}
}

// some does something to a router.
func some(t *testing.T, r *rand.Rand, s api.Router) api.Router {
	var seq uint64
	for _, x := range s.Lasts {
		seq = x.Seq
	}
	id := uint64(r.Intn(s.Total + 1))
	o := []api.Op{
		{Kind: api.Publish, S: lay(t, "a.b", seq+1, api.Field{Name: "k", V: number(int64(r.Intn(5)))}, api.Field{Name: []string{"x", "y"}[r.Intn(2)], V: api.Value{S: `q"`}})},
		{Kind: api.Step, S: "s", Ok: r.Intn(4) > 0}, {Kind: api.Step, S: "s", Ok: true}, {Kind: api.Redrive, S: "s"}, {Kind: api.Ack, Id: id}, {Kind: api.Nack, Id: id}, {Kind: api.Tick, N: r.Intn(40)}, {Kind: api.Retain}, {Kind: api.Resend, Id: id},
	}[r.Intn(9)]
	got, _, _ := shelf.Do(s, o)
	return got
}

func TestWhatIsLaidIsTakenAsItWas(t *testing.T) { // P20.4
	r := rand.New(rand.NewSource(20))
	laid := map[string]api.Router{}
	s, _ := route.Subscribe(api.Router{}, def("s"))
	for range 1500 {
		s = some(t, r, s)
		octets, e := shelf.Lay(s)
		if e != api.OK {
			t.Fatalf("Lay: %d", e)
		}
		if got, e := shelf.Take(octets); !route.Same(got, s) || e != api.OK {
			t.Fatalf("Take(Lay(%v)): %v, %d", s, got, e)
		}
		if other, there := laid[octets]; there && !route.Same(other, s) {
			t.Fatalf("%v and %v have the same octets", other, s)
		}
		laid[octets] = s
	}
	if len(laid) < 500 {
		t.Error(fmt.Sprint("little was done: ", len(laid)))
	}
}

func TestWhateverIsTakenIsLaidAsItWas(t *testing.T) { // P20.4
	r := rand.New(rand.NewSource(21))
	taken := 0
	for range 20000 {
		octets := []byte(plainOctets)
		for range 1 + r.Intn(2) {
			octets[r.Intn(len(octets))] += byte(r.Intn(5) - 2)
		}
		s, e := shelf.Take(string(octets))
		if e != api.OK {
			continue
		}
		taken++
		if again, e := shelf.Lay(s); again != string(octets) || e != api.OK {
			t.Fatalf("Lay(Take(%q)): %q, %d", octets, again, e)
		}
	}
	if taken == 0 {
		t.Error("nothing was taken")
	}
}
