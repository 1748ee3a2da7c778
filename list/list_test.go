package list_test

import (
	"cmp"
	"slices"
	"testing"

	"tryst/list"
)

func TestOthersAreMade(t *testing.T) {
	l := append(make([]int, 0, 9), 1, 3, 5)
	for _, c := range []struct{ got, want []int }{
		{list.With(l, 0, 9), []int{9, 1, 3, 5}}, {list.With(l, 2, 9), []int{1, 3, 9, 5}}, {list.With(l, 3, 9), []int{1, 3, 5, 9}}, {list.With(nil, 0, 9), []int{9}},
		{list.Without(l, 0), []int{3, 5}}, {list.Without(l, 1), []int{1, 5}}, {list.Without(l, 2), []int{1, 3}},
		{list.Set(l, 1, 9), []int{1, 9, 5}},
	} {
		if !slices.Equal(c.got, c.want) {
			t.Errorf("%v, want %v", c.got, c.want)
		}
	}
	if !slices.Equal(l[:4], []int{1, 3, 5, 0}) {
		t.Errorf("the list was changed: %v", l[:4])
	}
}

func TestRises(t *testing.T) {
	for _, l := range [][]int{nil, {1}, {1, 2, 9}} {
		if !list.Rises(l, cmp.Compare) {
			t.Errorf("%v does not rise", l)
		}
	}
	for _, l := range [][]int{{1, 1}, {2, 1}, {1, 2, 2}, {1, 3, 2, 4}} {
		if list.Rises(l, cmp.Compare) {
			t.Errorf("%v rises", l)
		}
	}
}

func TestPlace(t *testing.T) {
	for at, x := range []int{0, 1, 3} {
		if got := list.Place([]int{1, 3}, func(y int) bool { return y > x }); got != at {
			t.Errorf("Place above %d: %d", x, got)
		}
	}
}
