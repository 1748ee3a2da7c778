package pred_test

import (
	"fmt"
	"math"
	"math/rand"
	"strings"
	"testing"

	"tryst/api"
	"tryst/event"
	"tryst/pred"
)

func number(n int64) api.Value { return api.Value{Num: true, N: n} }

func text(s string) api.Value { return api.Value{S: s} }

func all() api.Pred { return api.Pred{Op: "all"} }

func topic(s string) api.Pred { return api.Pred{Op: "topic", S: s} }

func has(s string) api.Pred { return api.Pred{Op: "has", S: s} }

func eq(s string, v api.Value) api.Pred { return api.Pred{Op: "eq", S: s, V: v} }

func lt(s string, v api.Value) api.Pred { return api.Pred{Op: "lt", S: s, V: v} }

func not(p api.Pred) api.Pred { return api.Pred{Op: "not", L: []api.Pred{p}} }

func and(p, q api.Pred) api.Pred { return api.Pred{Op: "and", L: []api.Pred{p, q}} }

func or(p, q api.Pred) api.Pred { return api.Pred{Op: "or", L: []api.Pred{p, q}} }

// deep is so many nots of all: so deep, and one more.
func deep(nots int) api.Pred {
	p := all()
	for range nots {
		p = not(p)
	}
	return p
}

// wide has so many nodes (an odd number, at most 63), as flat as can be.
func wide(nodes int) api.Pred {
	if nodes == 1 {
		return all()
	}
	left := (nodes - 1) / 2
	if left%2 == 0 {
		left--
	}
	return or(wide(left), wide(nodes-1-left))
}

// doubled has 2^n leaves, all of the same few parts.
func doubled(n int) api.Pred {
	p := all()
	for range n {
		p = and(p, p)
	}
	return p
}

func mayNot() []api.Pred {
	return []api.Pred{
		{}, {Op: "ALL"}, {Op: "xor", L: []api.Pred{all(), all()}}, {Op: "all", S: "a"}, {Op: "all", V: number(0)}, {Op: "all", L: []api.Pred{all()}},
		topic(""), topic("a..b"), topic("a*"), {Op: "topic", S: "a", V: text("x")}, {Op: "topic", S: "a", L: []api.Pred{all()}},
		has(""), has("a.b"), has("*"), has(strings.Repeat("a", 17)), {Op: "has", S: "a", V: number(1)}, {Op: "has", S: "a", L: []api.Pred{all()}},
		eq("", number(1)), eq("A", number(1)), eq("a", text(strings.Repeat("x", 61))), eq("a", api.Value{N: 1}), {Op: "eq", S: "a", L: []api.Pred{all()}},
		lt("a.b", number(1)), lt("a", api.Value{Num: true, S: "x"}), {Op: "lt", S: "a", L: []api.Pred{all()}},
		{Op: "not"}, {Op: "not", L: []api.Pred{all(), all()}}, {Op: "not", S: "a", L: []api.Pred{all()}}, {Op: "not", V: number(0), L: []api.Pred{all()}},
		{Op: "and"}, {Op: "and", L: []api.Pred{all()}}, {Op: "and", L: []api.Pred{all(), all(), all()}}, {Op: "and", S: "a", L: []api.Pred{all(), all()}},
		{Op: "or", L: []api.Pred{all()}}, {Op: "or", V: text("x"), L: []api.Pred{all(), all()}},
		not(api.Pred{}), and(all(), has("")), or(eq("A", number(1)), all()), not(not(topic("."))),
		deep(8), deep(60000), wide(41), doubled(8), doubled(60), and(wide(39), not(all())),
	}
}

func may() []api.Pred {
	return []api.Pred{
		all(), topic("a.*"), topic("**"), has("k"), eq("x", number(5)), lt("x", text("")), not(all()), and(all(), has("x")), or(topic("a"), not(has("y"))),
		eq("not", number(-1)), lt("all", number(0)), eq("topic", text(")")), eq("has", text(" and ")), eq("and", text(`"`)), has("or"), not(eq("not", text("(not"))), and(eq("all", number(1)), all()),
		{Op: "all", L: []api.Pred{}}, deep(7), wide(39), and(wide(37), not(all())), eq("x", number(math.MinInt64)), eq("x", text("\n\x00\xff")), not(wide(39)),
	}
}

func TestMay(t *testing.T) { // P5.1
	for _, p := range may() {
		if !pred.May(p) {
			t.Errorf("May(%v) is false", p)
		}
	}
	for i, p := range mayNot() {
		if pred.May(p) {
			t.Errorf("May of the %d. that may not be is true", i)
		}
		if pred.Holds(p, api.Event{Topic: "a"}) {
			t.Errorf("the %d. that may not be holds", i)
		}
		if s, e := pred.Text(p); s != "" || e != api.ErrArg {
			t.Errorf("Text of the %d. that may not be: %.50q, %d", i, s, e)
		}
	}
}

func TestSame(t *testing.T) { // P5.1
	for i, p := range may() {
		for j, q := range may() {
			same := i == j || i+j == 17 && i*j == 0 // all, without parts by nil and by an empty list
			if pred.Same(p, q) != same {
				t.Errorf("Same(%v, %v) is not %t", p, q, same)
			}
		}
	}
	if pred.Same(and(all(), has("a")), and(all(), has("b"))) || pred.Same(and(all(), all()), and(all(), not(all()))) || !pred.Same(api.Pred{}, api.Pred{}) {
		t.Error("Same of parts")
	}
	if !pred.Same(deep(60000), deep(60000)) || pred.Same(deep(60000), deep(60001)) {
		t.Error("Same of deep ones")
	}
}

func TestHolds(t *testing.T) { // P5.1
	e := api.Event{Topic: "a.b", Producer: "p", Seq: 1, L: []api.Field{{Name: "s", V: text("m")}, {Name: "x", V: number(5)}}}
	for _, c := range []struct {
		p    api.Pred
		want bool
	}{
		{all(), true}, {topic("a.*"), true}, {topic("a"), false}, {has("x"), true}, {has("y"), false},
		{eq("x", number(5)), true}, {eq("x", number(6)), false}, {eq("x", text("5")), false}, {eq("y", number(5)), false}, {eq("s", text("m")), true}, {eq("s", text("")), false},
		{lt("x", number(6)), true}, {lt("x", number(5)), false}, {lt("x", number(4)), false}, {lt("x", text("a")), false}, {lt("y", number(6)), false},
		{lt("s", text("n")), true}, {lt("s", text("m")), false}, {lt("s", number(9)), false},
		{not(all()), false}, {not(has("y")), true},
		{and(all(), has("x")), true}, {and(has("y"), has("x")), false}, {and(has("x"), has("y")), false}, {and(has("y"), has("y")), false},
		{or(has("x"), has("y")), true}, {or(has("y"), has("x")), true}, {or(has("y"), has("y")), false}, {or(has("x"), has("x")), true},
	} {
		if got := pred.Holds(c.p, e); got != c.want {
			s, _ := pred.Text(c.p)
			t.Errorf("Holds(%s): %t", s, got)
		}
	}
	strange := api.Event{Topic: "A", L: []api.Field{{Name: "x", V: api.Value{Num: true, N: 5, S: "x"}}, {Name: "x", V: number(1)}}}
	if pred.Holds(topic("**"), strange) || pred.Holds(eq("x", number(5)), strange) || pred.Holds(eq("x", number(1)), strange) || !pred.Holds(lt("x", number(6)), strange) || pred.Holds(lt("x", number(5)), strange) || !pred.Holds(has("x"), strange) || !pred.Holds(all(), api.Event{}) {
		t.Error("Holds of an event that may not be")
	}
}

func TestText(t *testing.T) { // P5.2
	for _, c := range []struct {
		p    api.Pred
		want string
	}{
		{all(), "all"}, {topic("a.**"), "topic(a.**)"}, {has("k"), "has(k)"}, {eq("x", number(-5)), "(x = -5)"}, {lt("x", text(`a"`)), `(x < "a\"")`},
		{not(all()), "(not all)"}, {and(all(), has("x")), "(all and has(x))"}, {or(not(all()), and(all(), all())), "((not all) or (all and all))"},
		{not(eq("not", number(1))), "(not (not = 1))"},
	} {
		if s, e := pred.Text(c.p); s != c.want || e != api.OK {
			t.Errorf("Text: %q, %d, want %q", s, e, c.want)
		}
		if p, e := pred.Parse(c.want); !pred.Same(p, c.p) || e != api.OK {
			t.Errorf("Parse(%q): %v, %d", c.want, p, e)
		}
	}
}

func TestParseRefuses(t *testing.T) { // P5.2
	deepest, _ := pred.Text(deep(7))
	widest, _ := pred.Text(and(wide(37), not(all())))
	for _, s := range []string{
		"", " ", "a", "al", "all ", " all", "ALL", "allall", "(all)", "()", "(", ")", "not all", "not", "(not all", "(not all))", "(notall)", "(not  all)", "(not)", "(not )",
		"( x = 5)", "(x= 5)", "(x =5)", "(x = 5 )", "(x = 05)", "(x = +5)", "(x = -0)", "(x = a)", "(x = )", "(x == 5)", "(x > 5)", "(x <= 5)", "(x  = 5)", "(X = 5)", "(a.b = 5)", "( = 5)", "(* = 5)",
		"(x = 9223372036854775808)", `(x = "a)`, `(x = "\a")`, `(x = "` + strings.Repeat("x", 61) + `")`, "(" + strings.Repeat("x", 17) + " = 5)", "x = 5", "(x = 5", "(x = 5))",
		"topic()", "topic(a", "topic (a)", "topic( a)", "topic(a )", "topic(a..b)", "topic(A)", "topic((a))", "topic", "has()", "has(a.b)", "has(*)", "has(a", "has(a))", "has(" + strings.Repeat("a", 17) + ")",
		"(all and all", "(all and)", "(all and )", "( and all)", "(all and  all)", "(all And all)", "(all xor all)", "(all and all and all)", "(all all)", "(and all all)", "(all, all)",
		"all and all", "(all or all))", "((all or all)", "(not " + deepest + ")", "(" + widest + " or all)", strings.Repeat("(not ", 1000000), strings.Repeat("(", 1000000), strings.Repeat("(not ", 60000) + "all" + strings.Repeat(")", 60000),
	} {
		if p, e := pred.Parse(s); !pred.Same(p, api.Pred{}) || e != api.ErrForm {
			t.Errorf("Parse(%.60q): %v, %d", s, p, e)
		}
	}
}

// some is a predicate of at most so deep, with names that are also Ops.
func some(r *rand.Rand, room int) api.Pred {
	names := []string{"x", "not", "all", "and", "has", "topic", "x9_"}
	name := names[r.Intn(len(names))]
	kind := r.Intn(8)
	if room == 1 {
		kind = r.Intn(5)
	}
	v := number(int64(r.Intn(9) - 4))
	if r.Intn(2) == 0 {
		v = text([]string{"", "a", ")", `"`, `\`, " and "}[r.Intn(6)])
	}
	switch kind {
	case 0:
		return all()
	case 1:
		return topic([]string{"a.*", "**", "a"}[r.Intn(3)])
	case 2:
		return has(name)
	case 3:
		return eq(name, v)
	case 4:
		return lt(name, v)
	case 5:
		return not(some(r, room-1))
	case 6:
		return and(some(r, room-1), some(r, room-1))
	}
	return or(some(r, room-1), some(r, room-1))
}

func TestTextsAreParsedAsThePredicatesWere(t *testing.T) { // P5.3
	r := rand.New(rand.NewSource(5))
	texts := map[string]api.Pred{}
	for _, p := range may() {
		s, _ := pred.Text(p)
		texts[s] = p
	}
	for range 3000 {
		p := some(r, 1+r.Intn(5))
		s, _ := pred.Text(p)
		texts[s] = p
	}
	for s, p := range texts {
		if got, e := pred.Parse(s); !pred.Same(got, p) || e != api.OK {
			t.Fatalf("Parse(%q): %v, %d", s, got, e)
		}
		for i := range min(len(s), 80) { // whatever else is parsed has that text
			for _, near := range []string{s[:i], s[:i] + s[i+1:], s[:i] + " " + s[i:], s[:i] + "a" + s[i+1:], s[:i] + ")" + s[i:], s[i:]} {
				if got, e := pred.Parse(near); e == api.OK {
					if again, _ := pred.Text(got); again != near {
						t.Fatalf("Parse(%q): of text %q", near, again)
					}
				} else if e != api.ErrForm {
					t.Fatalf("Parse(%q): %d", near, e)
				}
			}
		}
	}
}

func TestNotHoldsJustWhereItDoesNot(t *testing.T) { // P5.3
	r := rand.New(rand.NewSource(6))
	for range 3000 {
		p := some(r, 4)
		e := api.Event{Topic: []string{"a", "a.b", "c"}[r.Intn(3)], Producer: "p", Seq: 1}
		for range r.Intn(4) {
			e = event.Put(e, []string{"x", "not", "all", "x9_"}[r.Intn(4)], number(int64(r.Intn(9)-4)))
		}
		if pred.Holds(p, e) == pred.Holds(not(p), e) {
			t.Fatal(fmt.Sprint(p, " and its not, of ", e))
		}
	}
}
