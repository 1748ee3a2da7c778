package inst_test

import (
	"fmt"
	"math"
	"math/rand"
	"slices"
	"strings"
	"testing"

	"tryst/api"
	"tryst/inst"
)

func number(n int64) api.Value { return api.Value{Num: true, N: n} }

func text(s string) api.Value { return api.Value{S: s} }

func kept(part int, id uint64, at int) api.Kept { return api.Kept{Part: part, Id: id, At: at} }

func in(key api.Value, l ...api.Kept) api.Inst { return api.Inst{Key: key, L: l} }

var pair = api.Join{Kind: "all", Parts: 2, Window: 5}

// full is as many instances as can be, of keys 0, 2, .., and Ids 1, 2, ..
func full() []api.Inst {
	var l []api.Inst
	for i := range api.MaxInsts {
		l = append(l, in(number(int64(2*i)), kept(0, uint64(i+1), 0)))
	}
	return l
}

// some is instances of two numbers and two texts.
func some() []api.Inst {
	return []api.Inst{
		in(number(-1), kept(0, 1, 0), kept(0, 2, 9)), in(number(3), kept(1, 3, 4)),
		in(text(""), kept(0, 4, 2), kept(0, 7, 2)), in(text("b"), kept(1, 5, 9)),
	}
}

func same(a, b []api.Inst) bool {
	return slices.EqualFunc(a, b, func(x, y api.Inst) bool { return x.Key == y.Key && slices.Equal(x.L, y.L) })
}

func TestCheck(t *testing.T) { // P10.1
	for _, l := range [][]api.Inst{nil, {}, some(), full(), {in(text(strings.Repeat("x", 60)), kept(0, math.MaxUint64, api.MaxTime))}} {
		if e := inst.Check(pair, l); e != api.OK {
			t.Errorf("Check(%v): %d", l, e)
		}
	}
	for _, c := range []struct {
		what string
		j    api.Join
		l    []api.Inst
	}{
		{"no pattern", api.Join{}, nil}, {"no pattern, but instances", api.Join{Kind: "all"}, some()},
		{"too many", pair, append(full(), in(text("x"), kept(0, 99, 0)))},
		{"a key that may not be", pair, []api.Inst{in(api.Value{N: 1}, kept(0, 1, 0))}},
		{"falling keys", pair, []api.Inst{in(text("a"), kept(0, 1, 0)), in(number(1), kept(0, 2, 0))}},
		{"one key twice", pair, []api.Inst{in(number(1), kept(0, 1, 0)), in(number(1), kept(0, 2, 0))}},
		{"nothing waits", pair, []api.Inst{in(number(1))}},
		{"it is met", pair, []api.Inst{in(number(1), kept(0, 1, 0), kept(1, 2, 0))}},
		{"no such part", pair, []api.Inst{in(number(1), kept(2, 1, 0))}},
		{"one Id twice in one", pair, []api.Inst{in(number(1), kept(0, 1, 0), kept(0, 1, 0))}},
		{"one Id in two", pair, []api.Inst{in(number(1), kept(0, 1, 0)), in(number(2), kept(0, 1, 0))}},
	} {
		if e := inst.Check(c.j, c.l); e != api.ErrArg {
			t.Errorf("Check of %s: %d", c.what, e)
		}
		if l, fired, over, e := inst.Feed(c.j, c.l, number(7), kept(0, 77, 50)); l != nil || fired != nil || over != nil || e != api.ErrArg {
			t.Errorf("Feed of %s: %v, %v, %v, %d", c.what, l, fired, over, e)
		}
		if l, over, e := inst.Expire(c.j, c.l, 50); l != nil || over != nil || e != api.ErrArg {
			t.Errorf("Expire of %s: %v, %v, %d", c.what, l, over, e)
		}
	}
}

func TestFindAndCount(t *testing.T) { // P10.1
	l := append(some(), in(number(3)), in(api.Value{N: 8}, kept(9, 9, 9)))
	for key, want := range map[api.Value]int{number(-1): 0, number(3): 1, text(""): 2, text("b"): 3, {N: 8}: 5, number(0): -1, text("c"): -1, {N: 3}: -1} {
		if got := inst.Find(l, key); got != want {
			t.Errorf("Find(%v): %d, want %d", key, got, want)
		}
	}
	if inst.Count(l) != 7 || inst.Count(nil) != 0 || inst.Count(full()) != 40 || inst.Find(nil, number(0)) != -1 {
		t.Error("Count")
	}
}

func TestFeed(t *testing.T) { // P10.2
	s := some()
	for _, c := range []struct {
		what        string
		key         api.Value
		x           api.Kept
		want        []api.Inst
		fired, over []api.Kept
	}{
		{"a new key goes where it goes", number(2), kept(0, 9, 9), []api.Inst{s[0], in(number(2), kept(0, 9, 9)), s[1], s[2], s[3]}, nil, nil},
		{"a new first key", number(-2), kept(0, 9, 9), []api.Inst{in(number(-2), kept(0, 9, 9)), s[0], s[1], s[2], s[3]}, nil, nil},
		{"a new last key", text("c"), kept(1, 9, 9), []api.Inst{s[0], s[1], s[2], s[3], in(text("c"), kept(1, 9, 9))}, nil, nil},
		{"one more waits", number(3), kept(1, 9, 9), []api.Inst{s[0], in(number(3), kept(1, 3, 4), kept(1, 9, 9)), s[2], s[3]}, nil, nil},
		{"it fires, and nothing is left", number(3), kept(0, 9, 9), []api.Inst{s[0], s[2], s[3]}, []api.Kept{kept(1, 3, 4), kept(0, 9, 9)}, nil},
		{"it fires, and one is left", text(""), kept(1, 9, 7), []api.Inst{s[0], s[1], in(text(""), kept(0, 7, 2)), s[3]}, []api.Kept{kept(0, 4, 2), kept(1, 9, 7)}, nil},
		{"it fires, and one was over", number(-1), kept(1, 9, 9), []api.Inst{s[1], s[2], s[3]}, []api.Kept{kept(0, 2, 9), kept(1, 9, 9)}, []api.Kept{kept(0, 1, 0)}},
		{"all of it was over", text(""), kept(1, 9, 8), []api.Inst{s[0], s[1], in(text(""), kept(1, 9, 8)), s[3]}, nil, []api.Kept{kept(0, 4, 2), kept(0, 7, 2)}},
	} {
		l, fired, over, e := inst.Feed(pair, s, c.key, c.x)
		if !same(l, c.want) || !slices.Equal(fired, c.fired) || !slices.Equal(over, c.over) || e != api.OK {
			t.Errorf("%s: %v, %v, %v, %d", c.what, l, fired, over, e)
		}
		if !same(s, some()) {
			t.Fatalf("%s: what was handed in was changed", c.what)
		}
	}
	if l, fired, over, e := inst.Feed(api.Join{Kind: "any", Parts: 1}, nil, text("k"), kept(0, 1, 1)); len(l) != 0 || len(fired) != 1 || len(over) != 0 || e != api.OK {
		t.Errorf("Feed of any: %v, %v, %v, %d", l, fired, over, e)
	}
}

func TestFeedRefuses(t *testing.T) { // P10.2
	many := []api.Inst{in(number(1))}
	for i := range 29 {
		many[0].L = append(many[0].L, kept(0, uint64(i+1), 0))
	}
	for _, c := range []struct {
		what string
		l    []api.Inst
		key  api.Value
		x    api.Kept
		want api.Errno
	}{
		{"a key that may not be", some(), api.Value{Num: true, S: "x"}, kept(0, 1, 9), api.ErrArg},
		{"an Id of another key", some(), number(77), kept(0, 5, 9), api.ErrThere},
		{"an Id of the key", some(), number(3), kept(0, 3, 9), api.ErrThere},
		{"an Id that is there, and no part", some(), number(3), kept(9, 3, 0), api.ErrThere},
		{"no part", some(), number(3), kept(2, 9, 9), api.ErrArg},
		{"no part, of a new key", some(), number(77), kept(-1, 9, 9), api.ErrArg},
		{"no time", some(), number(77), kept(0, 9, api.MaxTime+1), api.ErrArg},
		{"ahead of the last one", some(), number(3), kept(0, 9, 3), api.ErrLate},
		{"one instance is full", many, number(1), kept(0, 99, 5), api.ErrFull},
		{"there are too many instances", full(), number(1), kept(0, 99, 5), api.ErrFull},
	} {
		if l, fired, over, e := inst.Feed(pair, c.l, c.key, c.x); l != nil || fired != nil || over != nil || e != c.want {
			t.Errorf("%s: %v, %v, %v, %d", c.what, l, fired, over, e)
		}
	}
	for _, key := range []int64{0, 4, 78} {
		if l, _, _, e := inst.Feed(pair, full(), number(key), kept(0, 99, 5)); len(l) != 40 || inst.Count(l) != 41 || e != api.OK {
			t.Errorf("a key that there is has room among %d: %d", len(l), e)
		}
	}
	if l, fired, _, e := inst.Feed(pair, full(), number(4), kept(1, 99, 5)); len(l) != 39 || len(fired) != 2 || e != api.OK {
		t.Errorf("what fires makes room: %d, %d", len(l), e)
	}
	one := api.Join{Kind: "count", Parts: 2, Need: 2, Window: 5}
	if l, _, _, e := inst.Feed(one, full(), number(1), kept(0, 99, 5)); l != nil || e != api.ErrFull {
		t.Errorf("count waits among %d: %d", len(l), e)
	}
	single := api.Join{Kind: "all", Parts: 1, Window: 5}
	if l, fired, _, e := inst.Feed(single, nil, number(1), kept(0, 99, 5)); len(l) != 0 || len(fired) != 1 || e != api.OK {
		t.Errorf("what fires at once needs no room: %v, %d", l, e)
	}
}

func TestExpire(t *testing.T) { // P10.3
	s := some()
	for _, c := range []struct {
		now  int
		want []api.Inst
		over []api.Kept
	}{
		{9, []api.Inst{in(number(-1), kept(0, 2, 9)), s[1], s[3]}, []api.Kept{kept(0, 1, 0), kept(0, 4, 2), kept(0, 7, 2)}},
		{10, []api.Inst{in(number(-1), kept(0, 2, 9)), s[3]}, []api.Kept{kept(0, 1, 0), kept(1, 3, 4), kept(0, 4, 2), kept(0, 7, 2)}},
		{14, []api.Inst{in(number(-1), kept(0, 2, 9)), s[3]}, []api.Kept{kept(0, 1, 0), kept(1, 3, 4), kept(0, 4, 2), kept(0, 7, 2)}},
		{15, nil, []api.Kept{kept(0, 1, 0), kept(0, 2, 9), kept(1, 3, 4), kept(0, 4, 2), kept(0, 7, 2), kept(1, 5, 9)}},
		{api.MaxTime, nil, []api.Kept{kept(0, 1, 0), kept(0, 2, 9), kept(1, 3, 4), kept(0, 4, 2), kept(0, 7, 2), kept(1, 5, 9)}},
	} {
		l, over, e := inst.Expire(pair, s, c.now)
		if !same(l, c.want) || !slices.Equal(over, c.over) || e != api.OK || !same(s, some()) {
			t.Errorf("Expire at %d: %v, %v, %d", c.now, l, over, e)
		}
	}
	for _, now := range []int{8, 0, -1, math.MinInt, api.MaxTime + 1, math.MaxInt} {
		if l, over, e := inst.Expire(pair, s, now); l != nil || over != nil || e != api.ErrArg {
			t.Errorf("Expire at %d: %v, %v, %d", now, l, over, e)
		}
	}
	for now, want := range map[int]api.Errno{-1: api.ErrArg, api.MaxTime + 1: api.ErrArg, 0: api.OK, api.MaxTime: api.OK} {
		if l, over, e := inst.Expire(pair, nil, now); len(l) != 0 || len(over) != 0 || e != want {
			t.Errorf("Expire of nothing at %d: %d", now, e)
		}
	}
}

func TestKeysAreApart(t *testing.T) { // P10.4
	r := rand.New(rand.NewSource(12))
	j := api.Join{Kind: "all", Parts: 3, Window: 20}
	var l []api.Inst
	now, refused := 0, 0
	for id := range uint64(5000) {
		now += r.Intn(2)
		key := number(int64(r.Intn(50)))
		got, fired, over, e := inst.Feed(j, l, key, kept(r.Intn(3), id, now))
		if e != api.OK {
			refused++
			if e != api.ErrFull {
				t.Fatalf("Feed: %d", e)
			}
			got, over, e = inst.Expire(j, l, now)
			if e != api.OK || inst.Check(j, got) != api.OK || inst.Count(got)+len(over) != inst.Count(l) {
				t.Fatalf("Expire(%v): %v, %v, %d", l, got, over, e)
			}
			l = got
			continue
		}
		if inst.Check(j, got) != api.OK || inst.Count(got)+len(fired)+len(over) != inst.Count(l)+1 {
			t.Fatalf("Feed(%v): %v, %v, %v", l, got, fired, over)
		}
		others := func(l []api.Inst) string {
			return fmt.Sprint(slices.DeleteFunc(slices.Clone(l), func(in api.Inst) bool { return in.Key == key }))
		}
		if others(got) != others(l) {
			t.Fatalf("Feed of %v changed others: %v, %v", key, l, got)
		}
		l = got
	}
	if refused == 0 {
		t.Error("there was always room")
	}
}
