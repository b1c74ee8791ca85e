package tree

import "slices"

// sorted is a list whose elements rise by their keys, each key once. It never
// writes to its items: what it tells is always a list of its own.
type sorted[T, K any] struct {
	items []T
	key   func(T) K
	order func(K, K) int
}

// find is the place of the element of that key, or the one where it would be.
func (s sorted[T, K]) find(k K) (int, bool) {
	return slices.BinarySearchFunc(s.items, k, func(x T, k K) int {
		return s.order(s.key(x), k)
	})
}

// with is the items and those of more, which is sorted too; of two with one
// key that of more stays.
func (s sorted[T, K]) with(more ...T) []T {
	all := make([]T, 0, len(s.items)+len(more))
	for _, x := range more {
		at, met := s.find(s.key(x))
		all = append(append(all, s.items[:at]...), x)
		if met {
			at++
		}
		s.items = s.items[at:]
	}
	return append(all, s.items...)
}

// without is the items but the one at that place.
func (s sorted[T, K]) without(at int) []T {
	rest := make([]T, 0, len(s.items))
	return append(append(rest, s.items[:at]...), s.items[at+1:]...)
}

// arranged is the items brought in order, where they are in none as yet.
func (s sorted[T, K]) arranged() []T {
	all := s.with()
	slices.SortStableFunc(all, func(x, y T) int {
		return s.order(s.key(x), s.key(y))
	})
	return all
}
