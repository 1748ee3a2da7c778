package route

import (
	"cmp"
	"slices"

	"tryst/api"
	"tryst/dedup"
	"tryst/event"
	"tryst/inst"
	"tryst/list"
	"tryst/offs"
	"tryst/outbox"
	"tryst/topic"
)

// Check says whether a router may be.
func Check(s api.Router) api.Errno {
	if !isTime(s.Now) || topic.Check(s.Topics) != api.OK || dedup.Check(s.Lasts) != api.OK ||
		!maySubs(s) || !mayOuts(s) || !mayDead(s) {
		return api.ErrArg
	}
	return api.OK
}

func isTime(at int) bool { return at >= 0 && at <= api.MaxTime }

func maySubs(s api.Router) bool {
	byName := func(a, b api.Sub) int { return cmp.Compare(a.D.Name, b.D.Name) }
	isWrong := func(sub api.Sub) bool { return !maySub(s, sub) }
	return len(s.Subs) <= api.MaxSubs && list.Rises(s.Subs, byName) && !slices.ContainsFunc(s.Subs, isWrong)
}

// maySub: may a subscription of a router be, whose topics may be?
func maySub(s api.Router, sub api.Sub) bool {
	return offs.May(sub.D) && mayOffs(s, sub.Offs) &&
		inst.Check(sub.D.J, sub.Insts) == api.OK && mayCount(sub) && mayWait(s, sub)
}

func mayOffs(s api.Router, l []api.Off) bool {
	isWrong := func(o api.Off) bool {
		at, there := topic.Find(s.Topics, o.Topic)
		return !there || o.Next > endOf(s.Topics[at])
	}
	return offs.Check(l) == api.OK && !slices.ContainsFunc(l, isWrong)
}

// endOf is the end of a topic that may be.
func endOf(t api.Topic) int { return t.First + len(t.Log) }

// mayWait: may what waits be, if the counts may be?
func mayWait(s api.Router, sub api.Sub) bool {
	isWrong := func(x api.Kept) bool { return x.Id < 1 || x.Id > uint64(sub.Taken) || x.At > s.Now }
	return !slices.ContainsFunc(sub.Insts, func(in api.Inst) bool { return slices.ContainsFunc(in.L, isWrong) })
}

func mayCount(sub api.Sub) bool {
	for _, n := range numbers(sub) {
		if n < 0 {
			return false
		}
	}
	// Of what was taken in the others are taken off one by one, as their sum may be too great for an int.
	left := sub.Taken - sub.Fires
	return sub.Fails < api.Budget && left >= sub.Over && left-sub.Over == inst.Count(sub.Insts)
}

// numbers is all that is counted of a subscription.
func numbers(sub api.Sub) [5]int {
	return [5]int{sub.Fails, sub.Taken, sub.Passes, sub.Fires, sub.Over}
}

func mayOuts(s api.Router) bool {
	if s.Total < 0 || outbox.Check(s.Out) != api.OK || outbox.Check(s.Given) != api.OK {
		return false
	}
	isAbove := func(x api.Out) bool { return x.Id > uint64(s.Total) }
	isThere := func(x api.Out) bool { return outbox.Find(s.Out, x.Id) >= 0 }
	return !slices.ContainsFunc(s.Out, isAbove) && !slices.ContainsFunc(s.Given, isAbove) && !slices.ContainsFunc(s.Given, isThere)
}

func mayDead(s api.Router) bool {
	isWrong := func(d api.Dead) bool {
		_, wide, e := event.Take(d.E)
		return find(s.Subs, d.Sub) < 0 || e != api.OK || wide != len(d.E)
	}
	return len(s.Dead) <= api.MaxDead && !slices.ContainsFunc(s.Dead, isWrong)
}

// find is the place of the subscription of a name; -1, if there is none.
func find(l []api.Sub, name string) int {
	return slices.IndexFunc(l, func(sub api.Sub) bool { return sub.D.Name == name })
}

// Same: the same routers?
func Same(a, b api.Router) bool {
	return [2]int{a.Now, a.Total} == [2]int{b.Now, b.Total} &&
		slices.EqualFunc(a.Topics, b.Topics, sameTopic) && slices.Equal(a.Lasts, b.Lasts) &&
		slices.EqualFunc(a.Subs, b.Subs, sameSub) &&
		outbox.Same(a.Out, b.Out) && outbox.Same(a.Given, b.Given) && slices.Equal(a.Dead, b.Dead)
}

func sameTopic(a, b api.Topic) bool {
	return a.Name == b.Name && a.First == b.First && slices.Equal(a.Log, b.Log)
}

func sameSub(a, b api.Sub) bool {
	return offs.Same(a.D, b.D) && slices.Equal(a.Offs, b.Offs) &&
		slices.EqualFunc(a.Insts, b.Insts, sameInst) && numbers(a) == numbers(b)
}

func sameInst(a, b api.Inst) bool { return a.Key == b.Key && slices.Equal(a.L, b.L) }
