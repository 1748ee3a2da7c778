package join_test

import (
	"fmt"
	"math"
	"math/rand"
	"slices"
	"testing"

	"tryst/api"
	"tryst/join"
)

func all(parts, window int) api.Join { return api.Join{Kind: "all", Parts: parts, Window: window} }

func anyOf(parts, window int) api.Join { return api.Join{Kind: "any", Parts: parts, Window: window} }

func count(parts, need, window int) api.Join {
	return api.Join{Kind: "count", Parts: parts, Need: need, Window: window}
}

func kept(part int, id uint64, at int) api.Kept { return api.Kept{Part: part, Id: id, At: at} }

// waiting is so many of part 0, with Ids 1, 2, .., all at one time.
func waiting(n, at int) []api.Kept {
	var out []api.Kept
	for i := range n {
		out = append(out, kept(0, uint64(i+1), at))
	}
	return out
}

func mayNotPatterns() []api.Join {
	return []api.Join{
		{}, {Kind: "ALL", Parts: 1}, {Kind: "some", Parts: 1}, {Parts: 1},
		all(0, 0), all(-1, 0), all(7, 0), all(math.MaxInt, 0), anyOf(0, 0), anyOf(7, 0), count(0, 1, 0), count(7, 1, 0),
		all(1, -1), all(1, 1<<30+1), all(1, math.MaxInt), all(1, math.MinInt),
		{Kind: "all", Parts: 1, Need: 1}, {Kind: "any", Parts: 1, Need: 1}, {Kind: "all", Parts: 1, Need: -1}, count(1, 0, 0), count(1, -1, 0), count(1, 31, 0), count(1, math.MaxInt, 0),
	}
}

func TestMay(t *testing.T) { // P9.1
	for _, j := range []api.Join{all(1, 0), all(6, 1<<30), anyOf(1, 0), anyOf(6, 5), count(1, 1, 0), count(6, 30, 1<<30)} {
		if !join.May(j) {
			t.Errorf("May(%v) is false", j)
		}
	}
	for _, j := range mayNotPatterns() {
		if join.May(j) {
			t.Errorf("May(%v) is true", j)
		}
	}
}

func TestCheck(t *testing.T) { // P9.1
	for _, c := range []struct {
		j api.Join
		l []api.Kept
	}{
		{all(2, 5), nil}, {all(2, 5), []api.Kept{kept(0, 1, 0), kept(0, 0, 0), kept(0, math.MaxUint64, api.MaxTime)}}, {all(2, 5), waiting(29, 3)},
		{anyOf(2, 5), nil}, {count(1, 2, 0), waiting(1, 0)}, {count(6, 30, 0), waiting(29, 0)}, {all(3, 0), []api.Kept{kept(2, 1, 0), kept(1, 2, 5)}},
	} {
		if e := join.Check(c.j, c.l); e != api.OK {
			t.Errorf("Check(%v, %v): %d", c.j, c.l, e)
		}
	}
	type pair struct {
		j api.Join
		l []api.Kept
	}
	bad := []pair{
		{all(2, 5), waiting(30, 0)}, {all(2, 5), []api.Kept{kept(2, 1, 0)}}, {all(2, 5), []api.Kept{kept(-1, 1, 0)}}, {all(2, 5), []api.Kept{kept(0, 1, -1)}}, {all(2, 5), []api.Kept{kept(0, 1, api.MaxTime+1)}},
		{all(2, 5), []api.Kept{kept(0, 1, 3), kept(0, 2, 2)}}, {all(2, 5), []api.Kept{kept(0, 1, 3), kept(0, 2, 3), kept(0, 1, 4)}},
		{all(2, 5), []api.Kept{kept(1, 1, 0), kept(0, 2, 0)}}, {all(1, 5), waiting(1, 0)}, {anyOf(2, 5), waiting(1, 0)}, {count(1, 2, 5), waiting(2, 0)}, {count(1, 1, 5), waiting(1, 0)},
	}
	for _, j := range mayNotPatterns() {
		bad = append(bad, pair{j, nil})
	}
	for _, c := range bad {
		if e := join.Check(c.j, c.l); e != api.ErrArg {
			t.Errorf("Check(%v, %v): %d", c.j, c.l, e)
		}
		if left, fired, over, e := join.Feed(c.j, c.l, kept(0, 77, api.MaxTime)); left != nil || fired != nil || over != nil || e != api.ErrArg {
			t.Errorf("Feed(%v, %v): %v, %v, %v, %d", c.j, c.l, left, fired, over, e)
		}
		if left, over, e := join.Expire(c.j, c.l, api.MaxTime); left != nil || over != nil || e != api.ErrArg {
			t.Errorf("Expire(%v, %v): %v, %v, %d", c.j, c.l, left, over, e)
		}
	}
}

func TestExpire(t *testing.T) { // P9.2
	l := []api.Kept{kept(0, 1, 2), kept(0, 2, 2), kept(1, 3, 4), kept(0, 4, 9)}
	for _, c := range []struct{ window, now, over int }{
		{10, 9, 0}, {7, 9, 0}, {6, 9, 2}, {5, 9, 2}, {4, 9, 3}, {0, 9, 3}, {0, 10, 4}, {5, 14, 3}, {5, 15, 4}, {1 << 30, api.MaxTime, 4}, {1 << 30, 1<<30 + 2, 0}, {1 << 30, 1<<30 + 3, 2},
	} {
		left, over, e := join.Expire(all(3, c.window), l, c.now)
		if !slices.Equal(left, l[c.over:]) || !slices.Equal(over, l[:c.over]) || e != api.OK {
			t.Errorf("Expire of window %d at %d: %v, %v, %d", c.window, c.now, left, over, e)
		}
	}
	for _, now := range []int{8, 0, -1, math.MinInt, api.MaxTime + 1, math.MaxInt} {
		if left, over, e := join.Expire(all(3, 5), l, now); left != nil || over != nil || e != api.ErrArg {
			t.Errorf("Expire at %d: %v, %v, %d", now, left, over, e)
		}
	}
	if left, over, e := join.Expire(all(3, 5), l[:1], 1); left != nil || over != nil || e != api.ErrArg {
		t.Errorf("Expire of one, ahead of it: %v, %v, %d", left, over, e)
	}
	if left, over, e := join.Expire(all(3, 5), nil, 0); len(left) != 0 || len(over) != 0 || e != api.OK {
		t.Errorf("Expire of nothing: %v, %v, %d", left, over, e)
	}
}

func TestFeed(t *testing.T) { // P9.3
	for _, c := range []struct {
		what              string
		j                 api.Join
		l                 []api.Kept
		x                 api.Kept
		left, fired, over []api.Kept
	}{
		{"it waits", all(2, 5), nil, kept(0, 1, 0), []api.Kept{kept(0, 1, 0)}, nil, nil},
		{"the first ones fire", all(2, 5), []api.Kept{kept(0, 1, 0), kept(0, 2, 0)}, kept(1, 3, 0), []api.Kept{kept(0, 2, 0)}, []api.Kept{kept(0, 1, 0), kept(1, 3, 0)}, nil},
		{"in order of the list", all(3, 5), []api.Kept{kept(2, 9, 0), kept(1, 8, 0), kept(1, 7, 0), kept(2, 6, 1)}, kept(0, 1, 2), []api.Kept{kept(1, 7, 0), kept(2, 6, 1)}, []api.Kept{kept(2, 9, 0), kept(1, 8, 0), kept(0, 1, 2)}, nil},
		{"what is over does not fire", all(2, 5), []api.Kept{kept(0, 1, 0), kept(0, 2, 3)}, kept(1, 3, 6), nil, []api.Kept{kept(0, 2, 3), kept(1, 3, 6)}, []api.Kept{kept(0, 1, 0)}},
		{"just not over", all(2, 5), []api.Kept{kept(0, 1, 0)}, kept(1, 3, 5), nil, []api.Kept{kept(0, 1, 0), kept(1, 3, 5)}, nil},
		{"all is over", all(2, 0), []api.Kept{kept(0, 1, 0)}, kept(1, 3, 1), []api.Kept{kept(1, 3, 1)}, nil, []api.Kept{kept(0, 1, 0)}},
		{"one part alone", all(1, 0), nil, kept(0, 1, 0), nil, []api.Kept{kept(0, 1, 0)}, nil},
		{"any fires at once", anyOf(3, 5), nil, kept(2, 1, 4), nil, []api.Kept{kept(2, 1, 4)}, nil},
		{"count of one", count(2, 1, 5), nil, kept(1, 1, 4), nil, []api.Kept{kept(1, 1, 4)}, nil},
		{"count of two", count(2, 2, 5), []api.Kept{kept(1, 1, 0)}, kept(1, 2, 1), nil, []api.Kept{kept(1, 1, 0), kept(1, 2, 1)}, nil},
		{"count waits", count(2, 3, 5), []api.Kept{kept(1, 1, 0)}, kept(0, 2, 1), []api.Kept{kept(1, 1, 0), kept(0, 2, 1)}, nil, nil},
		{"count, and one is over", count(2, 2, 5), []api.Kept{kept(1, 1, 0)}, kept(0, 2, 6), []api.Kept{kept(0, 2, 6)}, nil, []api.Kept{kept(1, 1, 0)}},
		{"the thirtieth of count", count(1, 30, 5), waiting(29, 0), kept(0, 99, 0), nil, append(waiting(29, 0), kept(0, 99, 0)), nil},
		{"the thirtieth meets all", all(2, 5), waiting(29, 0), kept(1, 99, 0), waiting(29, 0)[1:], []api.Kept{kept(0, 1, 0), kept(1, 99, 0)}, nil},
		{"the thirtieth has room once others are over", all(2, 5), waiting(29, 0), kept(0, 99, 6), []api.Kept{kept(0, 99, 6)}, nil, waiting(29, 0)},
		{"the latest", all(2, 1<<30), nil, kept(0, math.MaxUint64, api.MaxTime), []api.Kept{kept(0, math.MaxUint64, api.MaxTime)}, nil, nil},
	} {
		before := fmt.Sprint(c.l)
		left, fired, over, e := join.Feed(c.j, c.l, c.x)
		if !slices.Equal(left, c.left) || !slices.Equal(fired, c.fired) || !slices.Equal(over, c.over) || e != api.OK {
			t.Errorf("%s: %v, %v, %v, %d", c.what, left, fired, over, e)
		}
		if fmt.Sprint(c.l) != before {
			t.Errorf("%s: what was handed in was changed", c.what)
		}
	}
}

func TestFeedRefuses(t *testing.T) { // P9.3
	l := []api.Kept{kept(0, 1, 2), kept(0, 2, 4)}
	for _, c := range []struct {
		j    api.Join
		l    []api.Kept
		x    api.Kept
		want api.Errno
	}{
		{all(2, 5), l, kept(2, 3, 5), api.ErrArg}, {all(2, 5), l, kept(-1, 3, 5), api.ErrArg}, {all(2, 5), l, kept(0, 3, -1), api.ErrArg}, {all(2, 5), l, kept(0, 3, api.MaxTime+1), api.ErrArg}, {all(2, 5), l, kept(0, 3, math.MinInt), api.ErrArg},
		{all(2, 5), l, kept(9, 1, 0), api.ErrArg}, {all(2, 5), l, kept(1, 3, 3), api.ErrLate}, {all(2, 5), l, kept(1, 1, 3), api.ErrLate}, {all(2, 5), l[:1], kept(1, 3, 1), api.ErrLate},
		{all(2, 5), l, kept(1, 1, 4), api.ErrThere}, {all(2, 5), l, kept(1, 2, 99), api.ErrThere},
		{all(2, 5), waiting(29, 0), kept(0, 99, 5), api.ErrFull}, {all(2, 5), waiting(29, 0), kept(0, 5, 5), api.ErrThere}, {count(2, 30, 5), append(waiting(28, 0), kept(1, 77, 3))[1:], kept(0, 77, 5), api.ErrThere},
	} {
		if left, fired, over, e := join.Feed(c.j, c.l, c.x); left != nil || fired != nil || over != nil || e != c.want {
			t.Errorf("Feed(%v, %v, %v): %v, %v, %v, %d", c.j, c.l, c.x, left, fired, over, e)
		}
	}
}

func TestNothingIsLostOrTwice(t *testing.T) { // P9.4
	r := rand.New(rand.NewSource(11))
	for _, j := range []api.Join{all(1, 3), all(2, 9), all(4, 30), anyOf(3, 5), count(3, 1, 5), count(2, 4, 6), count(2, 30, 90)} {
		var l []api.Kept
		gone := map[uint64]int{}
		fed := 0
		now := 0
		for id := range uint64(2000) {
			now += r.Intn(3)
			left, fired, over, e := join.Feed(j, l, kept(r.Intn(j.Parts), id, now))
			if e == api.ErrFull {
				continue
			}
			if e != api.OK || join.Check(j, left) != api.OK {
				t.Fatalf("Feed(%v, %v): %v, %d", j, l, left, e)
			}
			fed++
			l = left
			for _, x := range append(fired, over...) {
				gone[x.Id]++
			}
		}
		for _, x := range l {
			gone[x.Id]++
		}
		for id, times := range gone {
			if times != 1 {
				t.Errorf("%v: %d is there %d times", j, id, times)
			}
		}
		if len(gone) != fed {
			t.Errorf("%v: of %d there are %d", j, fed, len(gone))
		}
	}
}
