package sha

import (
	"iter"
	"math/bits"
)

// Table holds the numbers of the first primes' roots: K what is mixed in at each round, H what a digest begins with.
type Table struct {
	K [64]uint32
	H [8]uint32
}

// Make answers the table.
func Make() Table {
	var t Table
	for i, p := range primes(len(t.K)) {
		t.K[i] = fraction(p, cubeAbove)
		if i < len(t.H) {
			t.H[i] = fraction(p, squareAbove)
		}
	}
	return t
}

// primes yields the first count primes, each behind how many came before it.
func primes(count int) iter.Seq2[int, uint64] {
	return func(yield func(int, uint64) bool) {
		found := 0
		for n := uint64(2); found < count; n++ {
			if !isPrime(n) {
				continue
			}
			if !yield(found, n) {
				return
			}
			found++
		}
	}
}

func isPrime(n uint64) bool {
	for d := uint64(2); d*d <= n; d++ {
		if n%d == 0 {
			return false
		}
	}
	return true
}

// rootBits is enough for the root of the 64th prime, 311: 3 bits ahead of the point, 32 behind it.
const rootBits = 3 + 32

// fraction answers the first 32 bits behind the point of p's root. A root is reckoned as a whole
// number, 2^32 times as great, so that no bit of it is rounded; above tells of one whether it is too great.
func fraction(p uint64, above func(root, p uint64) bool) uint32 {
	var root uint64
	for i := rootBits - 1; i >= 0; i-- {
		if longer := root | 1<<i; !above(longer, p) {
			root = longer
		}
	}
	return uint32(root)
}

// squareAbove tells whether (root / 2^32)^2 is above p.
func squareAbove(root, p uint64) bool {
	high, low := bits.Mul64(root, root)
	return high > p || high == p && low > 0
}

// cubeAbove tells whether (root / 2^32)^3 is above p. The cube has at most 105 bits, so 128 hold it.
func cubeAbove(root, p uint64) bool {
	squareHigh, squareLow := bits.Mul64(root, root)
	carry, low := bits.Mul64(squareLow, root)
	high := squareHigh*root + carry
	return high > p<<32 || high == p<<32 && low > 0
}
