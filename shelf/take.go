package shelf

import (
	"tryst/api"
	"tryst/num"
	"tryst/pred"
	"tryst/val"
)

// taker takes fields from what is left of octets. Once something is wrong it stays so, and what is taken is nothing.
type taker struct {
	left  string
	wrong bool
}

func (t *taker) isWrong() bool { return t.wrong }

// isDone: was all taken, and nothing wrong?
func (t *taker) isDone() bool { return !t.wrong && t.left == "" }

// skip takes so many octets away.
func (t *taker) skip(wide int, e api.Errno) {
	t.left = t.left[wide:]
	t.wrong = t.wrong || e != api.OK
}

func (t *taker) packed() uint64 {
	if t.wrong {
		return 0
	}
	n, wide, e := num.Unpack(t.left)
	t.skip(wide, e)
	return n
}

func (t *taker) id(n *uint64) { *n = t.packed() }

func (t *taker) number(n *int) { *n = int(num.Unfold(t.packed())) }

// count takes how many a list has. One that is too long is not gone through: it is of no router that may be.
func (t *taker) count(int) int {
	n := t.packed()
	if n > mostListed {
		t.wrong = true
		return 0
	}
	return int(n)
}

func (t *taker) text(s *string) {
	n := t.packed()
	if n > uint64(len(t.left)) {
		t.wrong = true
	}
	if t.wrong {
		*s = ""
		return
	}
	*s = t.left[:n]
	t.skip(int(n), api.OK)
}

func (t *taker) truth(ok *bool) {
	if t.wrong || t.left == "" || t.left[0] > 1 {
		t.wrong = true
		return
	}
	*ok = t.left[0] == 1
	t.skip(1, api.OK)
}

func (t *taker) value(v *api.Value) {
	if t.wrong {
		return
	}
	x, wide, e := val.Take(t.left)
	*v = x
	t.skip(wide, e)
}

func (t *taker) pred(p *api.Pred) {
	var s string
	t.text(&s)
	if t.wrong {
		return
	}
	q, e := pred.Parse(s)
	*p = q
	t.skip(0, e)
}
