// Package lists: iterators over lists.
package lists

import "iter"

// Pairs goes over two lists side by side, as far as both go.
func Pairs[A, B any](first []A, second []B) iter.Seq2[A, B] {
	return func(yield func(A, B) bool) {
		for i := range min(len(first), len(second)) {
			if !yield(first[i], second[i]) {
				return
			}
		}
	}
}
