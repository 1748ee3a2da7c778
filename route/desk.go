package route

import (
	"slices"

	"tryst/api"
	"tryst/event"
	"tryst/inst"
	"tryst/list"
	"tryst/offs"
	"tryst/outbox"
	"tryst/topic"
)

// desk is where events of one subscription are handled: a router of its own, that is thrown away, if an error is met.
type desk struct {
	api.Router
	at int // the subscription's place
}

// handle is what is done to an event; and what that was.
type handle func(e api.Event) (int, api.Errno)

// deskOf is the desk of a subscription.
func deskOf(s api.Router, name string) (*desk, api.Errno) {
	if Check(s) != api.OK {
		return nil, api.ErrArg
	}
	at := find(s.Subs, name)
	if at < 0 {
		return nil, api.ErrNone
	}
	d := &desk{s, at}
	d.Subs = slices.Clone(s.Subs)
	return d, api.OK
}

// sub is the subscription.
func (d *desk) sub() *api.Sub { return &d.Subs[d.at] }

// step handles what is unread first. What failed stays unread.
func (d *desk) step(do handle) (int, api.Errno) {
	sub := d.sub()
	name, at, e := offs.Next(sub.D, sub.Offs, d.Topics)
	if e == api.ErrNone {
		return api.Nothing, api.OK
	}
	if e != api.OK {
		return 0, e
	}
	ev, e := topic.Read(d.Topics, name, at)
	if e != api.OK {
		return 0, e
	}
	told, e := do(ev)
	if e != api.OK || told == api.Failed {
		return told, e
	}
	sub.Fails = 0
	sub.Offs, e = offs.Put(sub.Offs, name, at+1)
	return told, e
}

// redrive handles what is dead first.
func (d *desk) redrive(do handle) (int, api.Errno) {
	name := d.sub().D.Name
	at := slices.IndexFunc(d.Dead, func(x api.Dead) bool { return x.Sub == name })
	if at < 0 {
		return 0, api.ErrNone
	}
	ev, _, e := event.Take(d.Dead[at].E)
	if e != api.OK {
		return 0, e
	}
	d.Dead = list.Without(d.Dead, at)
	return do(ev)
}

// fail counts that an event failed: what did too often is dead.
func (d *desk) fail(ev api.Event) (int, api.Errno) {
	sub := d.sub()
	sub.Fails++
	if sub.Fails < api.Budget {
		return api.Failed, api.OK
	}
	if len(d.Dead) == api.MaxDead {
		return 0, api.ErrFull
	}
	octets, e := event.Lay(ev)
	d.Dead = list.With(d.Dead, len(d.Dead), api.Dead{Sub: sub.D.Name, E: octets})
	return api.Died, e
}

// take takes an event in.
func (d *desk) take(ev api.Event) (int, api.Errno) {
	sub := d.sub()
	part := offs.Part(sub.D, ev)
	key, there := offs.Key(sub.D, ev)
	if part < 0 || !there {
		sub.Passes++
		return api.Passed, api.OK
	}
	// An Id does not go around, as Taken does: it is without a sign.
	x := api.Kept{Part: part, Id: uint64(sub.Taken) + 1, At: d.Now}
	insts, fired, over, e := inst.Feed(sub.D.J, sub.Insts, key, x)
	if e != api.OK {
		return 0, e
	}
	sub.Insts = insts
	sub.Taken++
	sub.Over += len(over)
	if len(fired) == 0 {
		return api.Waits, api.OK
	}
	return d.fire(fired)
}

// fire puts an output out, of those that fired.
func (d *desk) fire(fired []api.Kept) (int, api.Errno) {
	sub := d.sub()
	x := api.Out{Id: uint64(d.Total) + 1, Sub: sub.D.Name, Due: d.Now}
	for _, one := range fired {
		x.Ids = append(x.Ids, one.Id)
	}
	outs, e := outbox.Add(d.Out, x)
	if e != api.OK {
		return 0, e
	}
	d.Out = outs
	d.Total++
	sub.Fires += len(fired)
	return api.Fired, api.OK
}
