package keep

import (
	"strings"

	"tryst/api"
	"tryst/num"
)

// How many octets a head's numbers have, and what it ends with.
const (
	genWide    = 3
	halfWide   = 1
	serialWide = 3
	lengthWide = 4
	headKind   = "\x03"
)

// heads is how many cells there are for heads.
const heads = 2

// head tells where a text and records are: in which half, from which serial on, and how long the text is.
type head struct {
	gen    int
	half   int
	serial int
	length int
}

// place is the cell of a head: each Gen has another one than the Gen ahead of it.
func (h head) place() int { return h.gen % heads }

// cell is a head's octets.
func (h head) cell() string {
	gen := octets(h.gen, genWide)
	front := gen + octets(h.half, halfWide) + octets(h.serial, serialWide) + octets(h.length, lengthWide)
	back := gen + headKind
	return front + strings.Repeat("\x00", api.Cell-len(front)-len(back)) + back
}

func octets(n, wide int) string {
	s, _ := num.Put(uint64(n), wide)
	return s
}

// headOf is the head that a cell has; false, if it has none that counts there.
func headOf(cell string, place int, halves api.Halves) (head, bool) {
	left := cell
	next := func(wide int) int {
		n, _ := num.Get(left[:wide])
		left = left[wide:]
		return int(n)
	}
	var h head
	h.gen = next(genWide)
	h.half = next(halfWide)
	h.serial = next(serialWide)
	h.length = next(lengthWide)
	counts := h.gen >= 1 && h.half <= 1 && h.serial >= 1 && h.length <= halves.Text*api.Cell &&
		h.place() == place && h.cell() == cell
	return h, counts
}
