package shelf

import "tryst/api"

// mostListed is how many elements a list of a router that may be has at the most: outputs, and a topic's events.
const mostListed = max(api.MaxOut, api.MaxLog)

// fields is what puts fields behind octets, or takes them from octets: so that both have one shape.
type fields interface {
	number(n *int)
	id(n *uint64)
	text(s *string)
	truth(ok *bool)
	value(v *api.Value)
	pred(p *api.Pred)
	count(n int) int // how many a list has: n, if it is put
	isWrong() bool
}

// shape is in which order fields stand.
type shape struct{ fields }

// list has how many there are, and each one.
func list[T any](s shape, l *[]T, each func(x *T)) {
	for i := range s.count(len(*l)) {
		if s.isWrong() {
			return
		}
		if i == len(*l) {
			var x T
			*l = append(*l, x)
		}
		each(&(*l)[i])
	}
}

func (s shape) def(d *api.Def) {
	s.text(&d.Name)
	list(s, &d.Globs, s.text)
	list(s, &d.Where, s.pred)
	s.text(&d.Key)
	s.text(&d.J.Kind)
	s.number(&d.J.Parts)
	s.number(&d.J.Need)
	s.number(&d.J.Window)
}

func (s shape) topic(t *api.Topic) {
	s.text(&t.Name)
	s.number(&t.First)
	list(s, &t.Log, s.text)
}

func (s shape) last(x *api.Last) {
	s.text(&x.Producer)
	s.id(&x.Seq)
	s.number(&x.Offset)
}

func (s shape) off(o *api.Off) {
	s.text(&o.Topic)
	s.number(&o.Next)
}

func (s shape) kept(x *api.Kept) {
	s.number(&x.Part)
	s.id(&x.Id)
	s.number(&x.At)
}

func (s shape) inst(in *api.Inst) {
	s.value(&in.Key)
	list(s, &in.L, s.kept)
}

func (s shape) sub(x *api.Sub) {
	s.def(&x.D)
	list(s, &x.Offs, s.off)
	list(s, &x.Insts, s.inst)
	s.number(&x.Fails)
	s.number(&x.Taken)
	s.number(&x.Passes)
	s.number(&x.Fires)
	s.number(&x.Over)
}

func (s shape) out(x *api.Out) {
	s.id(&x.Id)
	s.text(&x.Sub)
	list(s, &x.Ids, s.id)
	s.number(&x.Tries)
	s.number(&x.Due)
}

func (s shape) dead(x *api.Dead) {
	s.text(&x.Sub)
	s.text(&x.E)
}

func (s shape) router(r *api.Router) {
	s.number(&r.Now)
	list(s, &r.Topics, s.topic)
	list(s, &r.Lasts, s.last)
	list(s, &r.Subs, s.sub)
	s.number(&r.Total)
	list(s, &r.Out, s.out)
	list(s, &r.Given, s.out)
	list(s, &r.Dead, s.dead)
}

func (s shape) op(o *api.Op) {
	s.number(&o.Kind)
	s.text(&o.S)
	s.truth(&o.Ok)
	s.id(&o.Id)
	s.number(&o.N)
	if o.Kind == api.Subscribe {
		s.def(&o.D)
	}
}
