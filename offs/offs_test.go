package offs_test

import (
	"fmt"
	"math"
	"slices"
	"strings"
	"testing"

	"tryst/api"
	"tryst/event"
	"tryst/offs"
	"tryst/topic"
)

func number(n int64) api.Value { return api.Value{Num: true, N: n} }

func has(s string) api.Pred { return api.Pred{Op: "has", S: s} }

// def wants a.* and b, by the key k: what has x, and whatever else.
func def() api.Def {
	return api.Def{
		Name: "s", Globs: []string{"a.*", "b"}, Key: "k", Where: []api.Pred{has("x"), {Op: "topic", S: "a.**"}},
		J: api.Join{Kind: "all", Parts: 2, Window: 5},
	}
}

// mayNot are definitions that may not be.
func mayNot() map[string]api.Def {
	out := map[string]api.Def{}
	put := func(what string, change func(d *api.Def)) {
		d := def()
		change(&d)
		out[what] = d
	}
	put("no name", func(d *api.Def) { d.Name = "" })
	put("a name of two parts", func(d *api.Def) { d.Name = "a.b" })
	put("a long name", func(d *api.Def) { d.Name = strings.Repeat("s", 17) })
	put("no globs", func(d *api.Def) { d.Globs = nil })
	put("six globs", func(d *api.Def) { d.Globs = slices.Repeat([]string{"a"}, 6) })
	put("a bad glob", func(d *api.Def) { d.Globs[1] = "a..b" })
	put("a bad pattern", func(d *api.Def) { d.J.Kind = "" })
	put("a bad window", func(d *api.Def) { d.J.Window = -1 })
	put("too few parts", func(d *api.Def) { d.Where = d.Where[:1] })
	put("too many parts", func(d *api.Def) { d.J.Parts = 1 })
	put("a bad predicate", func(d *api.Def) { d.Where[1] = api.Pred{} })
	put("a bad key", func(d *api.Def) { d.Key = "K" })
	put("a key of two parts", func(d *api.Def) { d.Key = "a.b" })
	put("nothing", func(d *api.Def) { *d = api.Def{} })
	return out
}

// topics are a.a, of numbers 0 and 1, a.b, of 5 to 7, b, of which all was trimmed, and c.
func topics(t *testing.T) []api.Topic {
	t.Helper()
	var l []api.Topic
	seq := uint64(0)
	for _, name := range strings.Fields("a.a a.a a.b a.b a.b a.b a.b a.b a.b a.b b c c c") {
		seq++
		var e api.Errno
		if l, _, e = topic.Append(l, api.Event{Topic: name, Producer: "p", Seq: seq}); e != api.OK {
			t.Fatalf("Append: %d", e)
		}
	}
	l, _ = topic.Trim(l, "a.b", 5)
	l, _ = topic.Trim(l, "b", 1)
	return l
}

func TestMay(t *testing.T) { // P14.1
	most := def()
	most.Globs = slices.Repeat([]string{"**"}, 5)
	most.J = api.Join{Kind: "count", Parts: 6, Need: 30, Window: 1 << 30}
	most.Where = slices.Repeat([]api.Pred{{Op: "all"}}, 6)
	keyless := def()
	keyless.Key = ""
	least := def()
	least.Globs = least.Globs[:1]
	for _, d := range []api.Def{def(), most, keyless, least} {
		if !offs.May(d) {
			t.Errorf("May(%v) is false", d)
		}
	}
	e := api.Event{Topic: "a.a", L: []api.Field{{Name: "k", V: number(1)}, {Name: "x", V: number(2)}}}
	for what, d := range mayNot() {
		if offs.May(d) || offs.Wants(d, "a.a") || offs.Wants(d, "a") || offs.Part(d, e) != -1 {
			t.Errorf("%s may be", what)
		}
		if v, there := offs.Key(d, e); v != (api.Value{}) || there {
			t.Errorf("Key of %s: %v, %t", what, v, there)
		}
		if name, n, e := offs.Next(d, nil, topics(t)); name != "" || n != 0 || e != api.ErrArg {
			t.Errorf("Next of %s: %q, %d, %d", what, name, n, e)
		}
	}
}

func TestSame(t *testing.T) { // P14.1
	if !offs.Same(def(), def()) || !offs.Same(api.Def{}, api.Def{Globs: []string{}, Where: []api.Pred{}}) {
		t.Error("Same of the same")
	}
	for _, change := range []func(d *api.Def){
		func(d *api.Def) { d.Name = "t" }, func(d *api.Def) { d.Globs[1] = "c" }, func(d *api.Def) { d.Globs = d.Globs[:1] }, func(d *api.Def) { d.Where[0].S = "y" }, func(d *api.Def) { d.Where = d.Where[:1] },
		func(d *api.Def) { d.Key = "" }, func(d *api.Def) { d.J.Kind = "any" }, func(d *api.Def) { d.J.Parts++ }, func(d *api.Def) { d.J.Need++ }, func(d *api.Def) { d.J.Window++ },
	} {
		d := def()
		change(&d)
		if offs.Same(def(), d) || offs.Same(d, def()) {
			t.Errorf("Same as %v", d)
		}
	}
}

func TestWants(t *testing.T) { // P14.1
	for topic, want := range map[string]bool{"a.a": true, "a.b": true, "b": true, "a": false, "c": false, "a.b.c": false, "b.b": false, "": false, "a.*": false, "A": false} {
		if offs.Wants(def(), topic) != want {
			t.Errorf("Wants(%q) is not %t", topic, want)
		}
	}
}

func TestPart(t *testing.T) { // P14.1
	x := []api.Field{{Name: "x", V: number(1)}}
	for _, c := range []struct {
		e    api.Event
		want int
	}{
		{api.Event{Topic: "a.a", L: x}, 0}, {api.Event{Topic: "z", L: x}, 0}, {api.Event{Topic: "a.a"}, 1}, {api.Event{Topic: "z"}, -1}, {api.Event{}, -1},
	} {
		if got := offs.Part(def(), c.e); got != c.want {
			t.Errorf("Part(%v): %d", c.e, got)
		}
	}
}

func TestKey(t *testing.T) { // P14.1
	e := api.Event{L: []api.Field{{Name: "k", V: number(3)}}}
	if v, there := offs.Key(def(), e); v != number(3) || !there {
		t.Errorf("Key: %v, %t", v, there)
	}
	if v, there := offs.Key(def(), api.Event{L: []api.Field{{Name: "x"}}}); v != (api.Value{}) || there {
		t.Errorf("Key of an event without: %v, %t", v, there)
	}
	d := def()
	d.Key = ""
	if v, there := offs.Key(d, e); v != (api.Value{}) || !there {
		t.Errorf("no Key: %v, %t", v, there)
	}
}

func off(topic string, next int) api.Off { return api.Off{Topic: topic, Next: next} }

// full is as many offsets as can be.
func full() []api.Off {
	var l []api.Off
	for i := range api.MaxOffs {
		l = append(l, off(fmt.Sprintf("t%02d", i), i))
	}
	return l
}

func TestCheck(t *testing.T) { // P14.2
	for _, l := range [][]api.Off{nil, {}, full(), {off("a", 0), off("a.b", math.MaxInt)}} {
		if e := offs.Check(l); e != api.OK {
			t.Errorf("Check(%v): %d", l, e)
		}
	}
	for _, l := range [][]api.Off{append(full(), off("z", 0)), {off("", 0)}, {off("a.*", 0)}, {off("a", -1)}, {off("b", 0), off("a", 0)}, {off("a", 0), off("a", 0)}} {
		if e := offs.Check(l); e != api.ErrArg {
			t.Errorf("Check(%v): %d", l, e)
		}
		if got, e := offs.Put(l, "b", 1); got != nil || e != api.ErrArg {
			t.Errorf("Put to what may not be: %v, %d", got, e)
		}
		if name, n, e := offs.Next(def(), l, topics(t)); name != "" || n != 0 || e != api.ErrArg {
			t.Errorf("Next of offsets that may not be: %q, %d, %d", name, n, e)
		}
	}
}

func TestGetAndPut(t *testing.T) { // P14.2
	l := []api.Off{off("b", 3), off("d", 5), off("b", 9)}
	for topic, want := range map[string]int{"b": 3, "d": 5, "c": 0, "": 0} {
		if got := offs.Get(l, topic); got != want {
			t.Errorf("Get(%q): %d", topic, got)
		}
	}
	l = l[:2:2]
	for _, c := range []struct {
		topic string
		next  int
		want  []api.Off
	}{
		{"a", 1, []api.Off{off("a", 1), off("b", 3), off("d", 5)}}, {"c", 0, []api.Off{off("b", 3), off("c", 0), off("d", 5)}}, {"e", math.MaxInt, []api.Off{off("b", 3), off("d", 5), off("e", math.MaxInt)}},
		{"b", 4, []api.Off{off("b", 4), off("d", 5)}}, {"d", 0, []api.Off{off("b", 3), off("d", 0)}},
	} {
		if got, e := offs.Put(l, c.topic, c.next); !slices.Equal(got, c.want) || e != api.OK {
			t.Errorf("Put(%q, %d): %v, %d", c.topic, c.next, got, e)
		}
		if !slices.Equal(l, []api.Off{off("b", 3), off("d", 5)}) {
			t.Fatal("Put changed what was handed in")
		}
	}
	for _, c := range []struct {
		l     []api.Off
		topic string
		next  int
		want  api.Errno
	}{{l, "a", -1, api.ErrArg}, {l, "b", math.MinInt, api.ErrArg}, {l, "", 0, api.ErrArg}, {l, "*", 0, api.ErrArg}, {full(), "z", 0, api.ErrFull}, {full(), "z", -1, api.ErrArg}} {
		if got, e := offs.Put(c.l, c.topic, c.next); got != nil || e != c.want {
			t.Errorf("Put(%q, %d): %v, %d", c.topic, c.next, got, e)
		}
	}
	if got, e := offs.Put(full(), "t07", 99); len(got) != 20 || offs.Get(got, "t07") != 99 || e != api.OK {
		t.Errorf("Put of a topic that there is, among many: %d", e)
	}
}

func TestNext(t *testing.T) { // P14.3
	l := topics(t)
	for _, c := range []struct {
		offs []api.Off
		name string
		n    int
		e    api.Errno
	}{
		{nil, "a.a", 0, api.OK}, {[]api.Off{off("a.a", 1)}, "a.a", 1, api.OK}, {[]api.Off{off("a.a", 2)}, "a.b", 5, api.OK}, {[]api.Off{off("a.a", 2), off("a.b", 3)}, "a.b", 5, api.OK},
		{[]api.Off{off("a.a", 2), off("a.b", 7)}, "a.b", 7, api.OK}, {[]api.Off{off("a.a", 2), off("a.b", 8)}, "", 0, api.ErrNone}, {[]api.Off{off("a.a", math.MaxInt), off("a.b", 9)}, "", 0, api.ErrNone},
		{[]api.Off{off("a.b", 6), off("c", 0)}, "a.a", 0, api.OK},
	} {
		if name, n, e := offs.Next(def(), c.offs, l); name != c.name || n != c.n || e != c.e {
			t.Errorf("Next(%v): %q, %d, %d", c.offs, name, n, e)
		}
	}
	if name, n, e := offs.Next(def(), nil, nil); name != "" || n != 0 || e != api.ErrNone {
		t.Errorf("Next of no topics: %q, %d, %d", name, n, e)
	}
	for _, bad := range [][]api.Topic{{{}}, {l[1], l[0]}, {{Name: "a.a", Log: []string{"x"}}}, {{Name: "a.a", First: -1}}} {
		if name, n, e := offs.Next(def(), nil, bad); name != "" || n != 0 || e != api.ErrArg {
			t.Errorf("Next of topics that may not be: %q, %d, %d", name, n, e)
		}
	}
}

func TestWhatIsUnreadIsReadInOrderOnce(t *testing.T) { // P14.4
	l := topics(t)
	var read []api.Off
	var got []string
	for {
		name, n, e := offs.Next(def(), read, l)
		if e == api.ErrNone {
			break
		}
		ev, e := topic.Read(l, name, n)
		if e != api.OK || !event.May(ev) {
			t.Fatalf("Read(%q, %d): %d", name, n, e)
		}
		got = append(got, fmt.Sprint(name, " ", n))
		if read, e = offs.Put(read, name, n+1); e != api.OK {
			t.Fatalf("Put: %d", e)
		}
	}
	if want := []string{"a.a 0", "a.a 1", "a.b 5", "a.b 6", "a.b 7"}; !slices.Equal(got, want) {
		t.Errorf("read: %q", got)
	}
}
