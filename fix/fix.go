// Package fix is layer 1: numbers that never go beyond the limit, api.Most.
package fix

import "valance/api"

// mostParts is the most parts that Part counts with.
const mostParts = 1000000

// Cut is n, or the limit, or its negative, if n is beyond it.
func Cut(n int) int {
	return max(-api.Most, min(n, api.Most))
}

// Add is a and b together.
func Add(a, b int) int {
	return Cut(Cut(a) + Cut(b))
}

// Sub is a less b.
func Sub(a, b int) int {
	return Cut(Cut(a) - Cut(b))
}

// Mul is a times b.
func Mul(a, b int) int {
	a, b = Cut(a), Cut(b)
	n := api.Most
	if high, low := product(size(a), size(b)); high == 0 && low < api.Most {
		n = int(low)
	}
	if (a < 0) != (b < 0) {
		return -n
	}
	return n
}

// Div is a by b, rounded down; 0, if b is not above 0.
func Div(a, b int) int {
	a, b = Cut(a), Cut(b)
	if b <= 0 {
		return 0
	}
	return down(a, b)
}

// Part is n of api.Whole parts of a, rounded down.
func Part(a, n int) int {
	// Cut as they are, both multiply to less than 2^60: one word has room for
	// it, where Mul would cut the product ahead of its division.
	return Cut(down(Cut(a)*Clamp(n, 0, mostParts), api.Whole))
}

// Clamp is the greater one of lo and the lesser one of n and hi.
func Clamp(n, lo, hi int) int {
	return max(Cut(lo), min(Cut(n), Cut(hi)))
}

// Sum is all of l, each added, and cut, behind the one ahead of it.
func Sum(l []int) int {
	sum := 0
	for _, n := range l {
		sum = Add(sum, n)
	}
	return sum
}

// size is how far a number is from 0. The number is cut, so that its negative
// is a number too.
func size(n int) uint64 {
	return uint64(max(n, -n))
}

// product is a times b, whole, as its high word and its low word. It is made of
// products of halves: none of those, with what is carried, is beyond a word.
func product(a, b uint64) (high, low uint64) {
	aHigh, aLow := a>>32, uint64(uint32(a))
	bHigh, bLow := b>>32, uint64(uint32(b))
	least := aLow * bLow
	left := aHigh*bLow + least>>32
	right := aLow*bHigh + uint64(uint32(left))
	high = aHigh*bHigh + left>>32 + right>>32
	low = right<<32 | uint64(uint32(least))
	return high, low
}

// down is a by b, above 0, rounded towards less, where Go rounds towards 0.
func down(a, b int) int {
	n := a / b
	if a%b < 0 {
		n--
	}
	return n
}
