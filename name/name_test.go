package name_test

import (
	"math/rand"
	"slices"
	"strings"
	"testing"

	"tryst/name"
)

func TestNames(t *testing.T) { // P2.1
	eight := "a.b.c.d.e.f.g.h"
	long := strings.Repeat("x", 40)
	for _, c := range []struct {
		s           string
		topic, glob bool
	}{
		{"a", true, true}, {"a.b", true, true}, {"0", true, true}, {"_", true, true}, {"az09_.z", true, true},
		{eight, true, true}, {eight + ".i", false, false}, {long, true, true}, {long + "x", false, false},
		{"aaaaaaaaaaaaaaaaaaa.bbbbbbbbbbbbbbbbbbbb", true, true}, {"aaaaaaaaaaaaaaaaaaaa.bbbbbbbbbbbbbbbbbbbb", false, false},
		{"*", false, true}, {"**", false, true}, {"a.*.**", false, true}, {"**.**.**.**.**.**.**.**", false, true},
		{"", false, false}, {".", false, false}, {"a.", false, false}, {".a", false, false}, {"a..b", false, false},
		{"***", false, false}, {"a*", false, false}, {"*a", false, false}, {"a.**b", false, false},
		{"A", false, false}, {"a b", false, false}, {"a-b", false, false}, {"a\x00", false, false}, {"é", false, false},
		{"\xff", false, false}, {"a\n", false, false}, {"`", false, false}, {"{", false, false}, {"/", false, false}, {":", false, false},
		{strings.Repeat("a.", 100000), false, false},
	} {
		if got := name.Topic(c.s); got != c.topic {
			t.Errorf("Topic(%.50q): %t", c.s, got)
		}
		if got := name.Glob(c.s); got != c.glob {
			t.Errorf("Glob(%.50q): %t", c.s, got)
		}
		parts := name.Parts(c.s)
		if !c.glob && len(parts) != 0 || c.glob && strings.Join(parts, ".") != c.s {
			t.Errorf("Parts(%.50q): %q", c.s, parts)
		}
	}
	if parts := name.Parts("a.**.b_1.*"); !slices.Equal(parts, []string{"a", "**", "b_1", "*"}) {
		t.Errorf("Parts: %q", parts)
	}
}

func TestMeets(t *testing.T) { // P2.2
	for _, c := range []struct {
		glob, topic string
		want        bool
	}{
		{"a.*.c", "a.b.c", true}, {"a.**", "a", true}, {"*.b", "b", false},
		{"a", "a", true}, {"a", "b", false}, {"a", "a.a", false}, {"a.a", "a", false}, {"a", "aa", false},
		{"*", "a", true}, {"*", "a.b", false}, {"*.*", "a.b", true}, {"*.*", "a", false},
		{"**", "a", true}, {"**", "a.b.c.d.e.f.g.h", true}, {"**.**", "a", true}, {"**.*.**", "a", true}, {"**.*.*", "a", false},
		{"**.b", "b", true}, {"**.b", "a.b.a.b", true}, {"**.b", "a.b.a", false},
		{"a.**.c", "a.c", true}, {"a.**.c", "a.b.b.c", true}, {"a.**.c", "a.b.b", false}, {"a.**.c", "c", false},
		{"**.a.**.b.**", "x.a.y.b.z", true}, {"**.a.**.b.**", "b.a", false},
		{"a.*", "a", false}, {"a..b", "a.b", false}, {"a*", "ab", false}, {"", "a", false}, {"**", "", false},
		{"**", "a.*", false}, {"*", "*", false}, {"a", "A", false}, {"A", "A", false}, {"**", "a.b.c.d.e.f.g.h.i", false},
		{"**.**.**.**.**.**.**.z", "a.a.a.a.a.a.a.a", false},
	} {
		if got := name.Meets(c.glob, c.topic); got != c.want {
			t.Errorf("Meets(%q, %q): %t", c.glob, c.topic, got)
		}
	}
}

// meetsPlainly says it again, by the definition alone.
func meetsPlainly(glob, topic []string) bool {
	if len(glob) == 0 {
		return len(topic) == 0
	}
	if glob[0] == "**" {
		for i := range len(topic) + 1 {
			if meetsPlainly(glob[1:], topic[i:]) {
				return true
			}
		}
		return false
	}
	return len(topic) > 0 && (glob[0] == "*" || glob[0] == topic[0]) && meetsPlainly(glob[1:], topic[1:])
}

func someParts(r *rand.Rand, from []string) []string {
	out := make([]string, 1+r.Intn(6))
	for i := range out {
		out[i] = from[r.Intn(len(from))]
	}
	return out
}

func TestMeetsAsTheDefinitionSays(t *testing.T) { // P2.2, P2.4
	r := rand.New(rand.NewSource(2))
	for range 20000 {
		glob := someParts(r, []string{"a", "b", "*", "**", "**"})
		topic := someParts(r, []string{"a", "b"})
		g, s := strings.Join(glob, "."), strings.Join(topic, ".")
		if got := name.Meets(g, s); got != meetsPlainly(glob, topic) {
			t.Fatalf("Meets(%q, %q): %t", g, s, got)
		}
		other := strings.Join(someParts(r, []string{"a", "b"}), ".")
		if !name.Glob(s) || name.Meets(s, other) != (s == other) || !name.Meets("**", s) {
			t.Fatalf("a topic %q meets itself alone (%q)", s, other)
		}
	}
}

func TestOrder(t *testing.T) { // P2.3
	rising := []string{"", "*", "*.a", "**", "0", "_", "a", "a.*", "a.b", "a.b.c", "a0", "a_", "aa", "ab", "b", "b.a"}
	for i, a := range rising {
		for j, b := range rising {
			want := 0
			if i < j {
				want = -1
			} else if i > j {
				want = 1
			}
			if got := name.Order(a, b); got != want {
				t.Errorf("Order(%q, %q): %d, want %d", a, b, got, want)
			}
		}
	}
	if name.Order("A", "a..b") != 0 || name.Order("A", "a") != -1 || name.Order("a", "z.") != 1 {
		t.Error("what is no glob is not as one without parts")
	}
}
