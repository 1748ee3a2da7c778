package nfa_test

import (
	"fmt"
	"math"
	"math/rand"
	"reflect"
	"slices"
	"strings"
	"testing"

	"tryst/api"
	"tryst/name"
	"tryst/nfa"
)

func build(t *testing.T, globs ...string) api.Nfa {
	t.Helper()
	n, e := nfa.Build(globs)
	if e != api.OK {
		t.Fatalf("Build(%q): %d", globs, e)
	}
	return n
}

// ways are by pairs of a sign and a state.
func ways(pairs ...int) []api.Edge {
	var out []api.Edge
	for i := 0; i < len(pairs); i += 2 {
		out = append(out, api.Edge{Sign: pairs[i], To: pairs[i+1]})
	}
	return out
}

// shape is an automaton as a text, in which a list that is nil and one without elements are the same.
func shape(n api.Nfa) string { return fmt.Sprint(n.Signs, n.Ways, n.Done, n.Begin) }

func TestBuild(t *testing.T) { // P6.1
	for _, c := range []struct {
		globs []string
		want  api.Nfa
	}{
		{nil, api.Nfa{}},
		{[]string{"a"}, api.Nfa{Signs: []string{"a"}, Ways: [][]api.Edge{ways(0, 1), ways()}, Done: [][]int{{}, {0}}, Begin: []int{0}}},
		{[]string{"b.a.b", "*"}, api.Nfa{
			Signs: []string{"a", "b"},
			Ways:  [][]api.Edge{ways(1, 1), ways(0, 2), ways(1, 3), ways(), ways(0, 5, 1, 5, 2, 5), ways()},
			Done:  [][]int{{}, {}, {}, {0}, {}, {1}}, Begin: []int{0, 4},
		}},
		{[]string{"**.c", "**"}, api.Nfa{
			Signs: []string{"c"},
			Ways:  [][]api.Edge{ways(-1, 1, 0, 0, 1, 0), ways(0, 2), ways(), ways(-1, 4, 0, 3, 1, 3), ways()},
			Done:  [][]int{{}, {}, {0}, {}, {1}}, Begin: []int{0, 3},
		}},
		{[]string{"*"}, api.Nfa{Ways: [][]api.Edge{ways(0, 1), ways()}, Done: [][]int{{}, {0}}, Begin: []int{0}}},
		{[]string{"a", "a"}, api.Nfa{Signs: []string{"a"}, Ways: [][]api.Edge{ways(0, 1), ways(), ways(0, 3), ways()}, Done: [][]int{{}, {0}, {}, {1}}, Begin: []int{0, 2}}},
	} {
		if n := build(t, c.globs...); shape(n) != shape(c.want) {
			t.Errorf("Build(%q): %s, want %s", c.globs, shape(n), shape(c.want))
		}
	}
	signs := build(t, "_.9.ab.a", "*.a.b.**", "0").Signs
	if !slices.Equal(signs, []string{"0", "9", "_", "a", "ab", "b"}) {
		t.Errorf("signs: %q", signs)
	}
}

func TestBuildRefuses(t *testing.T) { // P6.1
	twenty := slices.Repeat([]string{"a.**"}, 20)
	build(t, twenty...)
	for _, globs := range [][]string{{"a..b"}, {""}, {"a", "b", "c*"}, {"A", "a"}, append(twenty, "a"), slices.Repeat([]string{""}, 100)} {
		if n, e := nfa.Build(globs); shape(n) != shape(api.Nfa{}) || e != api.ErrArg {
			t.Errorf("Build(%q): %s, %d", globs, shape(n), e)
		}
	}
}

func TestLetter(t *testing.T) { // P6.2
	n := build(t, "b.*.d", "**")
	for part, want := range map[string]int{"b": 0, "d": 1, "a": 2, "c": 2, "e": 2, "*": 2, "**": 2, "": 2, "b.d": 2} {
		if got := nfa.Letter(n, part); got != want {
			t.Errorf("Letter(%q): %d", part, got)
		}
	}
}

func TestCloseAndStep(t *testing.T) { // P6.2
	n := build(t, "**.**.a", "*.a") // states 0 to 3, and 4 to 6
	for _, c := range []struct{ l, want []int }{
		{nil, nil}, {[]int{0}, []int{0, 1, 2}}, {[]int{1}, []int{1, 2}}, {[]int{2}, []int{2}}, {[]int{4, 0, 4}, []int{0, 1, 2, 4}}, {[]int{6, 3, 6, 1}, []int{1, 2, 3, 6}},
		{[]int{-1, 7, math.MinInt, math.MaxInt}, nil}, {[]int{7, 5, -1}, []int{5}},
	} {
		in := slices.Clone(c.l)
		if got := nfa.Close(n, c.l); !slices.Equal(got, c.want) || !slices.Equal(in, c.l) {
			t.Errorf("Close(%v): %v, want %v", in, got, c.want)
		}
	}
	for _, c := range []struct {
		l    []int
		sign int
		want []int
	}{
		{[]int{0}, 0, []int{0, 1, 2}}, {[]int{0}, 1, []int{0, 1, 2}}, {[]int{1}, 1, []int{1, 2}}, {[]int{2}, 0, []int{3}}, {[]int{2}, 1, nil}, {[]int{3}, 0, nil},
		{[]int{4}, 1, []int{5}}, {[]int{5}, 0, []int{6}}, {[]int{5, 1, 5}, 0, []int{1, 2, 6}}, {[]int{4, 5}, 1, []int{5}},
		{[]int{0}, -1, nil}, {[]int{0, 1}, -2, nil}, {[]int{0}, 2, nil}, {[]int{0}, math.MinInt, nil}, {[]int{4}, math.MaxInt, nil}, {[]int{-1, 9, 4}, 0, []int{5}}, {nil, 0, nil},
	} {
		if got := nfa.Step(n, c.l, c.sign); !slices.Equal(got, c.want) {
			t.Errorf("Step(%v, %d): %v, want %v", c.l, c.sign, got, c.want)
		}
	}
}

func TestRun(t *testing.T) { // P6.2
	n := build(t, "a.*", "**", "a.b", "a.b")
	for topic, want := range map[string][]int{"a.b": {0, 1, 2, 3}, "a": {1}, "a.c": {0, 1}, "c.b": {1}, "a.b.c": {1}, "": nil, "a.*": nil, "**": nil, "A": nil, "a..b": nil} {
		if got := nfa.Run(n, topic); !slices.Equal(got, want) {
			t.Errorf("Run(%q): %v, want %v", topic, got, want)
		}
	}
	if got := nfa.Run(build(t), "a"); len(got) != 0 {
		t.Errorf("Run of no globs: %v", got)
	}
}

func some(r *rand.Rand, from ...string) string {
	out := make([]string, 1+r.Intn(5))
	for i := range out {
		out[i] = from[r.Intn(len(from))]
	}
	return strings.Join(out, ".")
}

func TestRunTellsJustTheGlobsThatMeet(t *testing.T) { // P6.3
	r := rand.New(rand.NewSource(7))
	for range 500 {
		var globs []string
		for range r.Intn(api.MaxGlobs + 1) {
			globs = append(globs, some(r, "a", "b", "c", "*", "**"))
		}
		n := build(t, globs...)
		for range 10 {
			topic := some(r, "a", "b", "d")
			var want []int
			for i, glob := range globs {
				if name.Meets(glob, topic) {
					want = append(want, i)
				}
			}
			if got := nfa.Run(n, topic); !slices.Equal(got, want) {
				t.Fatalf("Run of %q on %q: %v, want %v", globs, topic, got, want)
			}
		}
	}
}

func TestWhateverAutomatonThereIsNoPanic(t *testing.T) { // R1
	for _, n := range []api.Nfa{
		{}, {Begin: []int{0, -1, 5}}, {Signs: []string{"b", "a"}, Ways: [][]api.Edge{ways(-1, 9, -1, 0, 0, -3, -5, 0, 7, 0)}, Begin: []int{0}},
		{Ways: make([][]api.Edge, 3), Done: [][]int{{-4, 9}}, Begin: []int{2, 0}}, {Done: make([][]int, 5), Begin: []int{3}},
		{Signs: []string{"a"}, Ways: [][]api.Edge{ways(0, 1), ways(1, 1)}, Done: [][]int{{0}}, Begin: []int{0}},
	} {
		before := shape(n)
		for sign := -6; sign < 9; sign++ {
			nfa.Step(n, []int{0, 1, 2, -1}, sign)
		}
		nfa.Close(n, []int{0, 1, 2, -1, math.MaxInt})
		nfa.Letter(n, "a")
		nfa.Run(n, "a.b")
		if !reflect.DeepEqual(before, shape(n)) {
			t.Errorf("%s was changed", before)
		}
	}
}
