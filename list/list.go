// Package list makes lists of others, and leaves those as they are.
package list

import "slices"

// With is a list with one more, ahead of what is at a place.
func With[T any](l []T, at int, x T) []T { return slices.Concat(l[:at], []T{x}, l[at:]) }

// Without is a list without what is at a place.
func Without[T any](l []T, at int) []T { return slices.Concat(l[:at], l[at+1:]) }

// Set is a list with another one at a place.
func Set[T any](l []T, at int, x T) []T {
	out := slices.Clone(l)
	out[at] = x
	return out
}

// Rises tells whether each one is above the one ahead of it.
func Rises[T any](l []T, order func(a, b T) int) bool {
	for i := 1; i < len(l); i++ {
		if order(l[i-1], l[i]) >= 0 {
			return false
		}
	}
	return true
}

// Place is the place of the first one that is above; behind all, if none is.
func Place[T any](l []T, above func(x T) bool) int {
	if at := slices.IndexFunc(l, above); at >= 0 {
		return at
	}
	return len(l)
}
