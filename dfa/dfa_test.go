package dfa_test

import (
	"fmt"
	"math"
	"math/rand"
	"slices"
	"strings"
	"testing"

	"tryst/api"
	"tryst/dfa"
	"tryst/name"
	"tryst/nfa"
)

func shape(d api.Dfa) string { return fmt.Sprint(d.Signs, d.Next, d.Done) }

func TestBuild(t *testing.T) { // P7.1
	for _, c := range []struct {
		globs []string
		want  api.Dfa
	}{
		{nil, api.Dfa{Next: [][]int{{-1}}, Done: [][]int{{}}}},
		{[]string{"a"}, api.Dfa{Signs: []string{"a"}, Next: [][]int{{1, -1}, {-1, -1}}, Done: [][]int{{}, {0}}}},
		{[]string{"*", "**"}, api.Dfa{Next: [][]int{{1}, {2}, {2}}, Done: [][]int{{1}, {0, 1}, {1}}}},
		{[]string{"b.a", "a"}, api.Dfa{Signs: []string{"a", "b"}, Next: [][]int{{1, 2, -1}, {-1, -1, -1}, {3, -1, -1}, {-1, -1, -1}}, Done: [][]int{{}, {1}, {}, {0}}}},
		{[]string{"**.a"}, api.Dfa{Signs: []string{"a"}, Next: [][]int{{1, 0}, {1, 0}}, Done: [][]int{{}, {0}}}},
		{[]string{"b.*", "b.c", "a.*"}, api.Dfa{
			Signs: []string{"a", "b", "c"},
			Next:  [][]int{{1, 2, -1, -1}, {3, 3, 3, 3}, {4, 4, 5, 4}, {-1, -1, -1, -1}, {-1, -1, -1, -1}, {-1, -1, -1, -1}},
			Done:  [][]int{{}, {}, {}, {2}, {0}, {0, 1}},
		}},
	} {
		d, e := dfa.Of(c.globs, 10)
		if shape(d) != shape(c.want) || e != api.OK || dfa.States(d) != len(c.want.Next) {
			t.Errorf("Of(%q): %s, %d, want %s", c.globs, shape(d), e, shape(c.want))
		}
		n, _ := nfa.Build(c.globs)
		if d, e := dfa.Build(n, len(c.want.Next)); shape(d) != shape(c.want) || e != api.OK {
			t.Errorf("Build(%q) with just enough room: %s, %d", c.globs, shape(d), e)
		}
		if d, e := dfa.Build(n, len(c.want.Next)-1); shape(d) != shape(api.Dfa{}) || e == api.OK {
			t.Errorf("Build(%q) with too little room: %s, %d", c.globs, shape(d), e)
		}
	}
}

func TestOfRefuses(t *testing.T) { // P7.1
	for _, c := range []struct {
		globs []string
		most  int
		want  api.Errno
	}{
		{[]string{"a"}, 1, api.ErrFull}, {[]string{"a"}, 0, api.ErrArg}, {[]string{"a"}, -1, api.ErrArg}, {nil, 0, api.ErrArg}, {nil, math.MinInt, api.ErrArg},
		{[]string{"a..b"}, 9, api.ErrArg}, {[]string{"a..b"}, 0, api.ErrArg}, {slices.Repeat([]string{"a"}, 21), 99, api.ErrArg},
		{[]string{"**.a.*.*.*.*.*.*"}, 127, api.ErrFull},
	} {
		if d, e := dfa.Of(c.globs, c.most); shape(d) != shape(api.Dfa{}) || e != c.want {
			t.Errorf("Of(%q, %d): %s, %d", c.globs, c.most, shape(d), e)
		}
	}
	if d, e := dfa.Of([]string{"**.a.*.*.*.*.*.*"}, 128); dfa.States(d) != 128 || e != api.OK {
		t.Errorf("Of one of 128 sets: %d, %d", dfa.States(d), e)
	}
	if d, e := dfa.Of(slices.Repeat([]string{"**.a.**.b.**.c.**.d"}, 20), math.MaxInt); dfa.States(d) == 0 || e != api.OK {
		t.Errorf("Of the greatest automaton: %d states, %d", dfa.States(d), e)
	}
}

func TestRun(t *testing.T) { // P7.2
	d, _ := dfa.Of([]string{"a.*", "a.b", "c"}, 99)
	for topic, want := range map[string][]int{"a.b": {0, 1}, "a.c": {0}, "a": nil, "c": {2}, "c.c": nil, "b": nil, "a.b.c": nil, "": nil, "a.*": nil, "A": nil} {
		if got := dfa.Run(d, topic); !slices.Equal(got, want) {
			t.Errorf("Run(%q): %v, want %v", topic, got, want)
		}
	}
}

func some(r *rand.Rand, from ...string) string {
	out := make([]string, 1+r.Intn(5))
	for i := range out {
		out[i] = from[r.Intn(len(from))]
	}
	return strings.Join(out, ".")
}

// setsPlainly are the states' sets, by the definition alone.
func setsPlainly(n api.Nfa) ([]string, [][]int) {
	first := nfa.Close(n, n.Begin)
	lists, keys, next := [][]int{first}, []string{fmt.Sprint(first)}, [][]int{}
	for i := 0; i < len(lists); i++ {
		var row []int
		for sign := range len(n.Signs) + 1 {
			l := nfa.Step(n, lists[i], sign)
			at := slices.Index(keys, fmt.Sprint(l))
			if len(l) == 0 {
				at = -1
			} else if at < 0 {
				at = len(lists)
				lists, keys = append(lists, l), append(keys, fmt.Sprint(l))
			}
			row = append(row, at)
		}
		next = append(next, row)
	}
	return keys, next
}

func TestRunTellsWhatTheAutomatonTells(t *testing.T) { // P7.1, P7.3
	r := rand.New(rand.NewSource(8))
	for range 300 {
		var globs []string
		for range r.Intn(7) {
			globs = append(globs, some(r, "a", "b", "c", "*", "**"))
		}
		n, _ := nfa.Build(globs)
		d, e := dfa.Build(n, 100000)
		if e != api.OK {
			t.Fatalf("Build(%q): %d", globs, e)
		}
		if _, next := setsPlainly(n); fmt.Sprint(next) != fmt.Sprint(d.Next) {
			t.Fatalf("Build(%q): %v, want %v", globs, d.Next, next)
		}
		for range 20 {
			topic := some(r, "a", "b", "d")
			var want []int
			for i, glob := range globs {
				if name.Meets(glob, topic) {
					want = append(want, i)
				}
			}
			if got := dfa.Run(d, topic); !slices.Equal(got, want) || !slices.Equal(nfa.Run(n, topic), got) {
				t.Fatalf("Run of %q on %q: %v, want %v", globs, topic, got, want)
			}
		}
	}
}

func TestRunOfTheMostStates(t *testing.T) { // P7.3
	r := rand.New(rand.NewSource(80))
	for range 20 {
		var globs []string
		for i := range api.MaxGlobs {
			parts := make([]string, api.MaxParts)
			for j := range parts {
				parts[j] = []string{"a", "b", "c", "*"}[r.Intn(4)]
			}
			if i%5 == 0 {
				parts[r.Intn(8)] = "**"
			}
			globs = append(globs, strings.Join(parts, "."))
		}
		n, _ := nfa.Build(globs)
		d, e := dfa.Build(n, 100000)
		if len(n.Ways) != 180 || e != api.OK {
			t.Fatalf("Build(%q): %d states, %d", globs, len(n.Ways), e)
		}
		for range 200 {
			topic := strings.ReplaceAll(globs[r.Intn(len(globs))], "**", "a")
			topic = strings.ReplaceAll(topic, "*", []string{"a", "b", "c", "d"}[r.Intn(4)])
			var want []int
			for i, glob := range globs {
				if name.Meets(glob, topic) {
					want = append(want, i)
				}
			}
			if got := dfa.Run(d, topic); !slices.Equal(got, want) {
				t.Fatalf("Run of %q on %q: %v, want %v", globs, topic, got, want)
			}
		}
	}
}

func TestWhateverAutomatonThereIsNoPanic(t *testing.T) { // R1
	for _, n := range []api.Nfa{
		{Begin: []int{0, -1, 5}}, {Ways: make([][]api.Edge, 1000), Begin: []int{999}}, {Ways: make([][]api.Edge, 180), Begin: []int{179}},
		{Signs: []string{"b", "a"}, Ways: [][]api.Edge{{{Sign: -1, To: 9}, {Sign: 0, To: -3}, {Sign: 7, To: 0}}}, Done: [][]int{{-4, 9, -4}, {1}}, Begin: []int{0}},
		{Signs: []string{"a"}, Ways: [][]api.Edge{{{Sign: 0, To: 1}}, {{Sign: 1, To: 1}}}, Done: [][]int{{0}}, Begin: []int{0}},
	} {
		d, _ := dfa.Build(n, 50)
		dfa.Run(d, "a.b")
	}
	for _, d := range []api.Dfa{
		{}, {Next: [][]int{{5}}}, {Next: [][]int{{1}}}, {Signs: []string{"a"}, Next: [][]int{{0}}}, {Next: [][]int{{0}}}, {Next: [][]int{{-9}}, Done: [][]int{{0}}}, {Signs: []string{"b", "a", "c"}, Next: [][]int{{0}, {}}, Done: [][]int{{0}}}, {Done: [][]int{{3}}}, {Next: [][]int{{1}, {1}}, Done: [][]int{{3}}},
	} {
		dfa.Run(d, "a")
		dfa.Run(d, "c.z.b")
		dfa.States(d)
	}
}
