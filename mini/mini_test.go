package mini_test

import (
	"fmt"
	"math/rand"
	"slices"
	"strings"
	"testing"

	"tryst/api"
	"tryst/dfa"
	"tryst/mini"
)

func shape(d api.Dfa) string { return fmt.Sprint(d.Signs, d.Next, d.Done) }

// looped is a Dfa of one sign, two of whose states are alike by a way around, and one of whose states is not live.
func looped() api.Dfa {
	return api.Dfa{
		Signs: []string{"a"},
		Next:  [][]int{{1, 4}, {2, -1}, {1, 4}, {0, 0}, {4, 4}},
		Done:  [][]int{{}, {0}, {}, {0}, {}},
	}
}

func TestMay(t *testing.T) { // P8.1
	for _, d := range []api.Dfa{
		{Next: [][]int{{-1}}, Done: [][]int{{}}}, {Next: [][]int{{0}}, Done: [][]int{nil}}, looped(),
		{Signs: []string{"", "a", "b"}, Next: [][]int{{0, 1, -1, 0}, {0, 0, 0, 1}}, Done: [][]int{{0, 1, 9}, {7}}},
	} {
		if !mini.May(d) {
			t.Errorf("May(%s) is false", shape(d))
		}
	}
	for _, d := range []api.Dfa{
		{}, {Signs: []string{"a"}}, {Done: [][]int{{}}}, {Next: [][]int{{-1}}}, {Next: [][]int{{-1}}, Done: [][]int{{}, {}}}, {Next: [][]int{{-1}, {-1}}, Done: [][]int{{}}},
		{Next: [][]int{{}}, Done: [][]int{{}}}, {Next: [][]int{{-1, -1}}, Done: [][]int{{}}}, {Signs: []string{"a"}, Next: [][]int{{0}}, Done: [][]int{{}}},
		{Next: [][]int{{1}}, Done: [][]int{{}}}, {Next: [][]int{{-2}}, Done: [][]int{{}}},
		{Signs: []string{"b", "a"}, Next: [][]int{{0, 0, 0}}, Done: [][]int{{}}}, {Signs: []string{"a", "a"}, Next: [][]int{{0, 0, 0}}, Done: [][]int{{}}},
		{Next: [][]int{{0}}, Done: [][]int{{1, 0}}}, {Next: [][]int{{0}}, Done: [][]int{{1, 1}}}, {Next: [][]int{{0}}, Done: [][]int{{-1}}}, {Next: [][]int{{0}}, Done: [][]int{{-2, 3}}},
	} {
		if mini.May(d) {
			t.Errorf("May(%s) is true", shape(d))
		}
		if l, e := mini.Least(d); shape(l) != shape(api.Dfa{}) || e != api.ErrArg {
			t.Errorf("Least(%s): %s, %d", shape(d), shape(l), e)
		}
	}
}

func TestSame(t *testing.T) { // P8.1
	if !mini.Same(looped(), looped()) || !mini.Same(api.Dfa{}, api.Dfa{Signs: []string{}, Next: [][]int{}, Done: [][]int{}}) {
		t.Error("Same of the same")
	}
	for _, change := range []func(d *api.Dfa){
		func(d *api.Dfa) { d.Signs[0] = "b" }, func(d *api.Dfa) { d.Signs = nil }, func(d *api.Dfa) { d.Next[4][1] = 3 }, func(d *api.Dfa) { d.Next = d.Next[:4] },
		func(d *api.Dfa) { d.Next[0] = d.Next[0][:1] }, func(d *api.Dfa) { d.Done[0] = []int{0} }, func(d *api.Dfa) { d.Done[1] = nil }, func(d *api.Dfa) { d.Done = d.Done[:4] },
	} {
		d := looped()
		change(&d)
		if mini.Same(looped(), d) || mini.Same(d, looped()) {
			t.Errorf("Same as %s", shape(d))
		}
	}
}

func TestLeast(t *testing.T) { // P8.1
	for _, c := range []struct{ d, want api.Dfa }{
		{looped(), api.Dfa{Signs: []string{"a"}, Next: [][]int{{1, -1}, {0, -1}}, Done: [][]int{{}, {0}}}},
		{api.Dfa{Next: [][]int{{0}}, Done: [][]int{{}}}, api.Dfa{Next: [][]int{{-1}}, Done: [][]int{{}}}},                                          // not live, but the first
		{api.Dfa{Next: [][]int{{1}, {0}}, Done: [][]int{{}, {}}}, api.Dfa{Next: [][]int{{-1}}, Done: [][]int{{}}}},                                 // nothing is live
		{api.Dfa{Next: [][]int{{1}, {0}}, Done: [][]int{{2}, {2}}}, api.Dfa{Next: [][]int{{0}}, Done: [][]int{{2}}}},                               // all are alike
		{api.Dfa{Next: [][]int{{0}, {0}}, Done: [][]int{{}, {1}}}, api.Dfa{Next: [][]int{{-1}}, Done: [][]int{{}}}},                                // what is done is not reached
		{api.Dfa{Next: [][]int{{2}, {-1}, {1}}, Done: [][]int{{}, {1}, {0}}}, api.Dfa{Next: [][]int{{1}, {2}, {-1}}, Done: [][]int{{}, {0}, {1}}}}, // the order changes
		{ // by none, and to what is not live, are alike
			api.Dfa{Signs: []string{"a"}, Next: [][]int{{1, 2}, {3, -1}, {-1, 3}, {3, 3}}, Done: [][]int{{}, {0}, {0}, {}}},
			api.Dfa{Signs: []string{"a"}, Next: [][]int{{1, 1}, {-1, -1}}, Done: [][]int{{}, {0}}},
		},
		{ // equally far, and yet not alike
			api.Dfa{Signs: []string{"a"}, Next: [][]int{{1, 2}, {3, -1}, {-1, 3}, {-1, -1}}, Done: [][]int{{}, {}, {}, {0}}},
			api.Dfa{Signs: []string{"a"}, Next: [][]int{{1, 2}, {3, -1}, {-1, 3}, {-1, -1}}, Done: [][]int{{}, {}, {}, {0}}},
		},
	} {
		before := shape(c.d)
		if l, e := mini.Least(c.d); shape(l) != shape(c.want) || e != api.OK {
			t.Errorf("Least(%s): %s, %d, want %s", before, shape(l), e, shape(c.want))
		}
		if shape(c.d) != before {
			t.Errorf("Least changed %s", before)
		}
	}
}

func TestOf(t *testing.T) { // P8.1
	d, e := mini.Of([]string{"a.b", "a.c"}, 9)
	want, _ := dfa.Of([]string{"a.b", "a.c"}, 9)
	if !mini.Same(d, want) || e != api.OK || dfa.States(d) != 4 {
		t.Errorf("Of of what is least: %s, %d", shape(d), e)
	}
	d, e = mini.Of([]string{"**.**", "**"}, 9)
	if shape(d) != shape(api.Dfa{Next: [][]int{{0}}, Done: [][]int{{0, 1}}}) || e != api.OK {
		t.Errorf("Of: %s, %d", shape(d), e)
	}
	for _, c := range []struct {
		globs []string
		most  int
		want  api.Errno
	}{{[]string{"a"}, 1, api.ErrFull}, {[]string{"a"}, 0, api.ErrArg}, {[]string{"A"}, 9, api.ErrArg}, {slices.Repeat([]string{"a"}, 21), 9, api.ErrArg}} {
		if d, e := mini.Of(c.globs, c.most); shape(d) != shape(api.Dfa{}) || e != c.want {
			t.Errorf("Of(%q, %d): %s, %d", c.globs, c.most, shape(d), e)
		}
	}
}

func some(r *rand.Rand, from ...string) string {
	out := make([]string, 1+r.Intn(5))
	for i := range out {
		out[i] = from[r.Intn(len(from))]
	}
	return strings.Join(out, ".")
}

// someDfa is one of few states, many of which are alike.
func someDfa(r *rand.Rand) api.Dfa {
	d := api.Dfa{Signs: []string{"a"}}
	n := 1 + r.Intn(8)
	for range n {
		d.Next = append(d.Next, []int{r.Intn(n+1) - 1, r.Intn(n+1) - 1})
		d.Done = append(d.Done, [][]int{{}, {}, {0}, {0, 1}}[r.Intn(4)])
	}
	return d
}

// apart tells which pairs of states are not alike, by the definition: a state that is not live is as none (-1).
func apart(d api.Dfa) func(s, u int) bool {
	live := make([]bool, len(d.Next))
	isLive := func(s int) bool { return s >= 0 && live[s] }
	for range d.Next {
		for s := range d.Next {
			live[s] = len(d.Done[s]) > 0 || slices.ContainsFunc(d.Next[s], isLive)
		}
	}
	told := map[[2]int]bool{}
	for range len(d.Next)*len(d.Next) + 1 {
		for s := range d.Next {
			for u := range d.Next {
				differ := !slices.Equal(d.Done[s], d.Done[u])
				for sign := range d.Next[s] {
					a, b := d.Next[s][sign], d.Next[u][sign]
					differ = differ || isLive(a) != isLive(b) || isLive(a) && told[[2]int{a, b}]
				}
				told[[2]int{s, u}] = differ
			}
		}
	}
	return func(s, u int) bool { return told[[2]int{s, u}] }
}

func TestNoTwoOfALeastAreAlike(t *testing.T) { // P8.2
	r := rand.New(rand.NewSource(9))
	for range 1000 {
		d := someDfa(r)
		l, e := mini.Least(d)
		if e != api.OK || !mini.May(l) {
			t.Fatalf("Least(%s): %s, %d", shape(d), shape(l), e)
		}
		isApart := apart(l)
		for s := range l.Next {
			for u := range s {
				if !isApart(s, u) {
					t.Fatalf("Least(%s): %s: %d and %d are alike", shape(d), shape(l), s, u)
				}
			}
		}
		if again, e := mini.Least(l); !mini.Same(again, l) || e != api.OK {
			t.Fatalf("Least of the least %s: %s, %d", shape(l), shape(again), e)
		}
		for range 20 {
			topic := some(r, "a", "b")
			if got, want := dfa.Run(l, topic), dfa.Run(d, topic); !slices.Equal(got, want) {
				t.Fatalf("Run of %s on %q: %v; of its least %v", shape(d), topic, want, got)
			}
		}
	}
}

func TestLeastOfGlobsRunsTheSame(t *testing.T) { // P8.2
	r := rand.New(rand.NewSource(10))
	for range 200 {
		var globs []string
		for range r.Intn(6) {
			globs = append(globs, some(r, "a", "b", "*", "**"))
		}
		d, _ := dfa.Of(globs, 100000)
		l, e := mini.Of(globs, 100000)
		if e != api.OK || dfa.States(l) > dfa.States(d) {
			t.Fatalf("Of(%q): %d", globs, e)
		}
		for range 20 {
			topic := some(r, "a", "b", "c")
			if got, want := dfa.Run(l, topic), dfa.Run(d, topic); !slices.Equal(got, want) {
				t.Fatalf("Run of %q on %q: %v; of its least %v", globs, topic, want, got)
			}
		}
	}
}

func TestLeastOfALongOne(t *testing.T) { // R1
	var d api.Dfa
	for i := range 100000 {
		d.Next = append(d.Next, []int{i + 1})
		d.Done = append(d.Done, nil)
	}
	d.Next[99999][0] = -1
	d.Done[99999] = []int{0}
	if l, e := mini.Least(d); !mini.Same(l, d) || e != api.OK {
		t.Errorf("Least of a long one: %d states, %d", dfa.States(l), e)
	}
}
