package ranges

import (
	"iter"
	"math/bits"
	"slices"
)

// Stretches answers how long the stretches of n leaves are, the longest first.
func Stretches(n int) []int {
	return slices.Collect(stretches(n))
}

// stretches goes through the bits of n that are set, the highest first: each is a stretch's length.
func stretches(n int) iter.Seq[int] {
	return func(yield func(length int) bool) {
		for rest := n; rest > 0; {
			length := 1 << (bits.Len(uint(rest)) - 1)
			if !yield(length) {
				return
			}
			rest -= length
		}
	}
}

// shortest answers how long the shortest stretch of n leaves is, of one or more.
func shortest(n int) int {
	least := 0
	for length := range stretches(n) {
		least = length
	}
	return least
}
