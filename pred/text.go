package pred

import (
	"strings"

	"tryst/api"
	"tryst/event"
	"tryst/val"
)

// Text is a predicate's text.
func Text(p api.Pred) (string, api.Errno) {
	if !May(p) {
		return "", api.ErrArg
	}
	return text(p), api.OK
}

// text is the text of a predicate that may be.
func text(p api.Pred) string {
	switch p.Op {
	case opTopic, opHas:
		return p.Op + "(" + p.S + ")"
	case opEq, opLt:
		written, _ := val.Write(p.V) // a predicate that may be has a value that may be
		return "(" + p.S + sign(p.Op) + written + ")"
	case opNot:
		return "(not " + text(p.L[0]) + ")"
	case opAnd, opOr:
		return "(" + text(p.L[0]) + sign(p.Op) + text(p.L[1]) + ")"
	}
	return p.Op
}

// sign is what stands between an Op's two sides.
func sign(op string) string {
	switch op {
	case opEq:
		return " = "
	case opLt:
		return " < "
	}
	return " " + op + " "
}

// Parse is a text's predicate.
func Parse(s string) (api.Pred, api.Errno) {
	r := reader{left: s}
	p := r.pred(1)
	if r.wrong || r.left != "" || !May(p) {
		return api.Pred{}, api.ErrForm
	}
	return p, api.OK
}

// reader reads a predicate from what is left of a text. Once it is wrong it stays so.
type reader struct {
	left  string
	wrong bool
}

// pred reads a predicate that stands so deep. What is too deep is not gone into, however deep it may be.
func (r *reader) pred(deep int) api.Pred {
	switch {
	case r.wrong || deep > api.MaxDeep:
		r.wrong = true
		return api.Pred{}
	case r.skip("topic("):
		return api.Pred{Op: opTopic, S: r.upTo(")")}
	case r.skip("has("):
		return api.Pred{Op: opHas, S: r.upTo(")")}
	case r.skip("("):
		p := r.inside(deep)
		r.need(")")
		return p
	}
	r.need(opAll)
	return api.Pred{Op: opAll}
}

// inside reads what stands between ( and ).
func (r *reader) inside(deep int) api.Pred {
	if p, there := r.compared(); there {
		return p
	}
	if r.skip("not ") {
		return api.Pred{Op: opNot, L: []api.Pred{r.pred(deep + 1)}}
	}
	first := r.pred(deep + 1)
	for _, op := range [2]string{opAnd, opOr} {
		if r.skip(sign(op)) {
			return api.Pred{Op: op, L: []api.Pred{first, r.pred(deep + 1)}}
		}
	}
	r.wrong = true
	return api.Pred{}
}

// compared reads a name, = or <, and a value; false, if there is none of these signs behind what may be a name (all, or not, may be one, too).
func (r *reader) compared() (api.Pred, bool) {
	name, _, _ := strings.Cut(r.left, " ")
	if !event.Field(name) {
		return api.Pred{}, false
	}
	for _, op := range [2]string{opEq, opLt} {
		if behind, there := strings.CutPrefix(r.left[len(name):], sign(op)); there {
			r.left = behind
			return api.Pred{Op: op, S: name, V: r.value()}, true
		}
	}
	return api.Pred{}, false
}

func (r *reader) value() api.Value {
	v, wide, e := val.Read(r.left)
	r.left = r.left[wide:]
	r.wrong = r.wrong || e != api.OK
	return v
}

// upTo reads what is ahead of a sign, and the sign.
func (r *reader) upTo(sign string) string {
	s, behind, there := strings.Cut(r.left, sign)
	r.left = behind
	r.wrong = r.wrong || !there
	return s
}

func (r *reader) need(s string) { r.wrong = !r.skip(s) || r.wrong }

// skip reads s, if it is next.
func (r *reader) skip(s string) bool {
	behind, there := strings.CutPrefix(r.left, s)
	r.left = behind
	return there
}
