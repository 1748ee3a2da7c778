package mini

import (
	"slices"
	"strconv"

	"tryst/api"
)

// kinds is a number for each state, that alike states have in common: nowhere for those that are not live.
func kinds(d api.Dfa) []int {
	far := distances(d)
	// Alike states are equally far from where a glob is done: parted by that, most are told apart at once.
	of, count := part(far, func(s int) string { return text(far[s]) + text(d.Done[s]...) })
	for {
		finer, more := part(far, func(s int) string { return text(of[s]) + text(behind(d, s, of)...) })
		if more == count {
			return of
		}
		of, count = finer, more
	}
}

// distances is how many ways there are from each state to where a glob is done: nowhere, if it is not live.
func distances(d api.Dfa) []int {
	from := make([][]int, len(d.Next))
	far := make([]int, len(d.Next))
	var todo []int
	for s, ways := range d.Next {
		for _, to := range ways {
			if to != nowhere {
				from[to] = append(from[to], s)
			}
		}
		far[s] = nowhere
		if len(d.Done[s]) > 0 {
			far[s] = 0
			todo = append(todo, s)
		}
	}
	for at := 0; at < len(todo); at++ {
		for _, s := range from[todo[at]] {
			if far[s] == nowhere {
				far[s] = far[todo[at]] + 1
				todo = append(todo, s)
			}
		}
	}
	return far
}

// part parts the states that are live by what each is like; and tells how many kinds there are.
func part(far []int, like func(s int) string) ([]int, int) {
	met := map[string]int{}
	of := make([]int, len(far))
	for s := range far {
		if far[s] == nowhere {
			of[s] = nowhere
			continue
		}
		key := like(s)
		kind, there := met[key]
		if !there {
			kind = len(met)
			met[key] = kind
		}
		of[s] = kind
	}
	return of, len(met)
}

// behind is the kinds of the states behind a state, by each sign.
func behind(d api.Dfa, s int, of []int) []int {
	out := make([]int, len(d.Next[s]))
	for sign, to := range d.Next[s] {
		out[sign] = nowhere
		if to != nowhere {
			out[sign] = of[to]
		}
	}
	return out
}

// text is numbers as a text: no two lists have the same, nor does one begin with another's.
func text(l ...int) string {
	var out []byte
	for _, n := range l {
		out = append(strconv.AppendInt(out, int64(n), 10), ' ')
	}
	return string(append(out, '.'))
}

// joined is the Dfa of which each state is all those of a kind, as they are met from state 0 on.
func joined(d api.Dfa, of []int) api.Dfa {
	out := api.Dfa{Signs: slices.Clone(d.Signs)}
	place := map[int]int{of[0]: 0}
	first := []int{0} // a state of each kind that was met
	for at := 0; at < len(first); at++ {
		s := first[at]
		row := behind(d, s, of)
		for sign, kind := range row {
			if kind == nowhere {
				continue
			}
			if _, there := place[kind]; !there {
				place[kind] = len(first)
				first = append(first, d.Next[s][sign])
			}
			row[sign] = place[kind]
		}
		out.Next = append(out.Next, row)
		out.Done = append(out.Done, slices.Clone(d.Done[s]))
	}
	return out
}
