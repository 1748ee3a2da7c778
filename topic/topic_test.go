package topic_test

import (
	"fmt"
	"math"
	"math/rand"
	"slices"
	"testing"

	"tryst/api"
	"tryst/event"
	"tryst/topic"
)

func ev(topic string, seq uint64) api.Event {
	return api.Event{Topic: topic, Producer: "p", Seq: seq, L: []api.Field{{Name: "n", V: api.Value{Num: true, N: int64(seq)}}}}
}

func octets(t *testing.T, topic string, seq uint64) string {
	t.Helper()
	s, e := event.Lay(ev(topic, seq))
	if e != api.OK {
		t.Fatalf("Lay: %d", e)
	}
	return s
}

// some is topics a, of numbers 0 to 2, and b.b, of numbers 7 and 8, and c, of which all was trimmed.
func some(t *testing.T) []api.Topic {
	return []api.Topic{
		{Name: "a", Log: []string{octets(t, "a", 1), octets(t, "a", 2), octets(t, "a", 3)}},
		{Name: "b.b", First: 7, Log: []string{octets(t, "b.b", 1), octets(t, "b.b", 9)}},
		{Name: "c", First: 4},
	}
}

func same(a, b []api.Topic) bool {
	return slices.EqualFunc(a, b, func(x, y api.Topic) bool {
		return x.Name == y.Name && x.First == y.First && slices.Equal(x.Log, y.Log)
	})
}

// full is as many topics as can be.
func full() []api.Topic {
	var l []api.Topic
	for i := range api.MaxTopics {
		l = append(l, api.Topic{Name: fmt.Sprintf("t%02d", i)})
	}
	return l
}

func TestCheck(t *testing.T) { // P12.1
	hundred := slices.Repeat([]string{octets(t, "a", 1)}, 100)
	for _, l := range [][]api.Topic{nil, {}, some(t), full(), {{Name: "a", Log: hundred}}, {{Name: "a", First: api.MaxTime}}, {{Name: "a", First: api.MaxTime - 1, Log: hundred[:1]}}} {
		if e := topic.Check(l); e != api.OK {
			t.Errorf("Check(%v): %d", l, e)
		}
	}
	for what, l := range map[string][]api.Topic{
		"too many": append(full(), api.Topic{Name: "z"}), "no name": {{}}, "a glob": {{Name: "*"}}, "falling": {{Name: "b"}, {Name: "a"}}, "twice": {{Name: "a"}, {Name: "a"}},
		"below 0": {{Name: "a", First: -1}}, "far below 0": {{Name: "a", First: math.MinInt}}, "too long": {{Name: "a", Log: append(hundred, octets(t, "a", 1))}},
		"an end too great": {{Name: "a", First: api.MaxTime, Log: hundred[:1]}}, "a first too great": {{Name: "a", First: api.MaxTime + 1}}, "the greatest first": {{Name: "a", First: math.MaxInt, Log: hundred[:2]}},
		"of another": {{Name: "a", Log: []string{octets(t, "b", 1)}}}, "no octets": {{Name: "a", Log: []string{""}}}, "octets cut off": {{Name: "a", Log: []string{hundred[0][1:]}}},
		"octets and more": {{Name: "a", Log: []string{hundred[0] + "\x00"}}}, "the last is wrong": {{Name: "a", Log: []string{hundred[0], hundred[0], "x"}}},
	} {
		if e := topic.Check(l); e != api.ErrArg {
			t.Errorf("Check of %s: %d", what, e)
		}
		if n, e := topic.End(l, "a"); n != 0 || e != api.ErrArg {
			t.Errorf("End of %s: %d, %d", what, n, e)
		}
		if got, n, e := topic.Append(l, ev("a", 1)); got != nil || n != 0 || e != api.ErrArg {
			t.Errorf("Append of %s: %v, %d, %d", what, got, n, e)
		}
		if got, e := topic.Read(l, "a", 0); !event.Same(got, api.Event{}) || e != api.ErrArg {
			t.Errorf("Read of %s: %v, %d", what, got, e)
		}
		if got, e := topic.Trim(l, "a", 0); got != nil || e != api.ErrArg {
			t.Errorf("Trim of %s: %v, %d", what, got, e)
		}
	}
}

func TestFind(t *testing.T) { // P12.1
	l := append(some(t), api.Topic{Name: "a"}, api.Topic{Name: "*"})
	for name, want := range map[string]int{"a": 0, "b.b": 1, "c": 2, "*": 4} {
		if at, there := topic.Find(l, name); at != want || !there {
			t.Errorf("Find(%q): %d, %t", name, at, there)
		}
	}
	for _, name := range []string{"b", "", "d"} {
		if at, there := topic.Find(l, name); at != 0 || there {
			t.Errorf("Find(%q): %d, %t", name, at, there)
		}
	}
}

func TestEnd(t *testing.T) { // P12.2
	for name, want := range map[string]int{"a": 3, "b.b": 9, "c": 4} {
		if n, e := topic.End(some(t), name); n != want || e != api.OK {
			t.Errorf("End(%q): %d, %d", name, n, e)
		}
	}
	for _, name := range []string{"b", "", "*"} {
		if n, e := topic.End(some(t), name); n != 0 || e != api.ErrNone {
			t.Errorf("End(%q): %d, %d", name, n, e)
		}
	}
}

func TestAppend(t *testing.T) { // P12.2
	s := some(t)
	for _, c := range []struct {
		topic string
		want  []api.Topic
		n     int
	}{
		{"a", []api.Topic{{Name: "a", Log: append(slices.Clone(s[0].Log), octets(t, "a", 5))}, s[1], s[2]}, 3},
		{"b.b", []api.Topic{s[0], {Name: "b.b", First: 7, Log: append(slices.Clone(s[1].Log), octets(t, "b.b", 5))}, s[2]}, 9},
		{"c", []api.Topic{s[0], s[1], {Name: "c", First: 4, Log: []string{octets(t, "c", 5)}}}, 4},
		{"0", []api.Topic{{Name: "0", Log: []string{octets(t, "0", 5)}}, s[0], s[1], s[2]}, 0},
		{"b", []api.Topic{s[0], {Name: "b", Log: []string{octets(t, "b", 5)}}, s[1], s[2]}, 0},
		{"d", []api.Topic{s[0], s[1], s[2], {Name: "d", Log: []string{octets(t, "d", 5)}}}, 0},
	} {
		if l, n, e := topic.Append(s, ev(c.topic, 5)); !same(l, c.want) || n != c.n || e != api.OK {
			t.Errorf("Append to %q: %v, %d, %d", c.topic, l, n, e)
		}
		if !same(s, some(t)) {
			t.Fatalf("Append to %q changed what was handed in", c.topic)
		}
	}
}

func TestAppendLeavesOthersAlone(t *testing.T) { // P12.2, R3
	l, _, _ := topic.Append(nil, ev("a", 1))
	l, _, _ = topic.Append(l, ev("a", 2))
	l, _, _ = topic.Append(l, ev("a", 3))
	one, _, _ := topic.Append(l, ev("a", 4))
	other, _, _ := topic.Append(l, ev("a", 5))
	if got, e := topic.Read(one, "a", 3); !event.Same(got, ev("a", 4)) || e != api.OK {
		t.Errorf("one has %v", got)
	}
	if got, e := topic.Read(other, "a", 3); !event.Same(got, ev("a", 5)) || e != api.OK {
		t.Errorf("the other one has %v", got)
	}
}

func TestAppendRefuses(t *testing.T) { // P12.2
	log := slices.Repeat([]string{octets(t, "a", 1)}, 100)
	for _, c := range []struct {
		what string
		l    []api.Topic
		e    api.Event
		want api.Errno
	}{
		{"an event that may not be", nil, ev("a", 0), api.ErrArg}, {"an event of no topic", some(t), ev("a.*", 1), api.ErrArg}, {"no room, and no event", full(), api.Event{}, api.ErrArg},
		{"a log that is full", []api.Topic{{Name: "a", Log: log}}, ev("a", 1), api.ErrFull}, {"the greatest end", []api.Topic{{Name: "a", First: api.MaxTime}}, ev("a", 1), api.ErrFull},
		{"too many topics", full(), ev("a", 1), api.ErrFull},
	} {
		if l, n, e := topic.Append(c.l, c.e); l != nil || n != 0 || e != c.want {
			t.Errorf("%s: %v, %d, %d", c.what, l, n, e)
		}
	}
	if l, n, e := topic.Append(full(), ev("t07", 1)); len(l) != 20 || n != 0 || e != api.OK {
		t.Errorf("a topic that there is has room: %d", e)
	}
	if _, n, e := topic.Append([]api.Topic{{Name: "a", Log: log[:99]}}, ev("a", 1)); n != 99 || e != api.OK {
		t.Errorf("the hundredth has room: %d, %d", n, e)
	}
	if _, n, e := topic.Append([]api.Topic{{Name: "a", First: api.MaxTime - 1}}, ev("a", 1)); n != api.MaxTime-1 || e != api.OK {
		t.Errorf("the last number has room: %d, %d", n, e)
	}
}

func TestRead(t *testing.T) { // P12.3
	for _, c := range []struct {
		name string
		at   int
		want api.Event
		e    api.Errno
	}{
		{"a", 0, ev("a", 1), api.OK}, {"a", 2, ev("a", 3), api.OK}, {"b.b", 7, ev("b.b", 1), api.OK}, {"b.b", 8, ev("b.b", 9), api.OK},
		{"a", 3, api.Event{}, api.ErrGap}, {"a", -1, api.Event{}, api.ErrLate}, {"a", math.MaxInt, api.Event{}, api.ErrGap}, {"b.b", 6, api.Event{}, api.ErrLate}, {"b.b", 9, api.Event{}, api.ErrGap},
		{"c", 3, api.Event{}, api.ErrLate}, {"c", 4, api.Event{}, api.ErrGap}, {"c", math.MinInt, api.Event{}, api.ErrLate}, {"b", 0, api.Event{}, api.ErrNone}, {"", -1, api.Event{}, api.ErrNone},
	} {
		if got, e := topic.Read(some(t), c.name, c.at); !event.Same(got, c.want) || e != c.e {
			t.Errorf("Read(%q, %d): %v, %d", c.name, c.at, got, e)
		}
	}
}

func TestTrim(t *testing.T) { // P12.3
	s := some(t)
	for _, c := range []struct {
		name string
		upto int
		want []api.Topic
	}{
		{"a", 0, s}, {"a", 1, []api.Topic{{Name: "a", First: 1, Log: s[0].Log[1:]}, s[1], s[2]}}, {"a", 3, []api.Topic{{Name: "a", First: 3}, s[1], s[2]}},
		{"b.b", 0, s}, {"b.b", 7, s}, {"b.b", 8, []api.Topic{s[0], {Name: "b.b", First: 8, Log: s[1].Log[1:]}, s[2]}}, {"b.b", 9, []api.Topic{s[0], {Name: "b.b", First: 9}, s[2]}}, {"c", 4, s}, {"c", 3, s},
	} {
		if l, e := topic.Trim(s, c.name, c.upto); !same(l, c.want) || e != api.OK {
			t.Errorf("Trim(%q, %d): %v, %d", c.name, c.upto, l, e)
		}
		if !same(s, some(t)) {
			t.Fatalf("Trim(%q, %d) changed what was handed in", c.name, c.upto)
		}
	}
	for _, c := range []struct {
		name string
		upto int
		want api.Errno
	}{{"a", 4, api.ErrArg}, {"a", -1, api.ErrArg}, {"a", math.MaxInt, api.ErrArg}, {"b.b", -1, api.ErrArg}, {"c", 5, api.ErrArg}, {"d", 0, api.ErrNone}, {"d", -1, api.ErrNone}} {
		if l, e := topic.Trim(s, c.name, c.upto); l != nil || e != c.want {
			t.Errorf("Trim(%q, %d): %v, %d", c.name, c.upto, l, e)
		}
	}
}

func TestWhatWasAppendedIsReadTillItIsTrimmed(t *testing.T) { // P12.4
	r := rand.New(rand.NewSource(14))
	var l []api.Topic
	kept := map[string][]api.Event{}
	first := map[string]int{}
	for i := range 2000 {
		name := fmt.Sprintf("t.%d", r.Intn(5))
		if r.Intn(20) == 0 && len(kept[name]) > 0 {
			upto := r.Intn(len(kept[name]) + 1)
			got, e := topic.Trim(l, name, upto)
			if e != api.OK {
				t.Fatalf("Trim: %d", e)
			}
			l, first[name] = got, max(first[name], upto)
		} else if got, n, e := topic.Append(l, ev(name, uint64(i+1))); e == api.OK {
			if n != len(kept[name]) {
				t.Fatalf("Append to %s: %d, want %d", name, n, len(kept[name]))
			}
			l = got
			kept[name] = append(kept[name], ev(name, uint64(i+1)))
		} else if e != api.ErrFull || len(kept[name])-first[name] != api.MaxLog {
			t.Fatalf("Append: %d", e)
		}
	}
	for name, events := range kept {
		for n, want := range events {
			got, e := topic.Read(l, name, n)
			if n < first[name] && e != api.ErrLate || n >= first[name] && (e != api.OK || !event.Same(got, want)) {
				t.Fatalf("Read(%s, %d): %v, %d", name, n, got, e)
			}
		}
	}
}
