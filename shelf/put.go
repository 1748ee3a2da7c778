package shelf

import (
	"tryst/api"
	"tryst/num"
	"tryst/pred"
	"tryst/val"
)

// putter puts fields behind octets. What it is handed may be: nothing goes wrong.
type putter struct{ octets []byte }

func (p *putter) put(octets string) { p.octets = append(p.octets, octets...) }

func (p *putter) isWrong() bool { return false }

func (p *putter) id(n *uint64) { p.put(num.Pack(*n)) }

func (p *putter) number(n *int) { p.put(num.Pack(num.Fold(int64(*n)))) }

func (p *putter) count(n int) int {
	p.put(num.Pack(uint64(n)))
	return n
}

func (p *putter) text(s *string) {
	p.count(len(*s))
	p.put(*s)
}

func (p *putter) truth(ok *bool) {
	if *ok {
		p.put("\x01")
	} else {
		p.put("\x00")
	}
}

func (p *putter) value(v *api.Value) {
	octets, _ := val.Lay(*v)
	p.put(octets)
}

func (p *putter) pred(q *api.Pred) {
	s, _ := pred.Text(*q)
	p.text(&s)
}
