package natural

import (
	"math/bits"

	"schisma/api"
)

// compare returns -1, 0 or 1 if a is less than, equal to or greater than b.
func compare(a, b api.Nat) int {
	if len(a) != len(b) {
		return sign(len(a) < len(b))
	}
	for i := len(a) - 1; i >= 0; i-- {
		if a[i] != b[i] {
			return sign(a[i] < b[i])
		}
	}
	return 0
}

// sign returns -1 for what is less, otherwise 1.
func sign(less bool) int {
	if less {
		return -1
	}
	return 1
}

// limb returns the limb of a with the index i, also beyond its end.
func limb(a api.Nat, i int) uint32 {
	if i < len(a) {
		return a[i]
	}
	return 0
}

// sum returns a + b.
func sum(a, b api.Nat) api.Nat {
	n := max(len(a), len(b))
	c := make([]uint32, n+1)
	carry := uint32(0)
	for i := range n {
		c[i], carry = bits.Add32(limb(a, i), limb(b, i), carry)
	}
	c[n] = carry
	return fit(c)
}

// difference returns a - b, and raises ErrRange if a is less than b.
func difference(a, b api.Nat) api.Nat {
	if compare(a, b) < 0 {
		panic(api.ErrRange)
	}
	c := make([]uint32, len(a))
	borrow := uint32(0)
	for i := range c {
		c[i], borrow = bits.Sub32(a[i], limb(b, i), borrow)
	}
	return trim(c)
}

// product returns a * b.
func product(a, b api.Nat) api.Nat {
	if len(a) == 0 || len(b) == 0 {
		return nil
	}
	if len(a)+len(b)-1 > api.MaxLimbs { // a product never has fewer limbs
		panic(api.ErrLimit)
	}
	c := make([]uint32, len(a)+len(b))
	for i, x := range a {
		c[i+len(b)] = addTimes(c[i:i+len(b)], b, x)
	}
	return fit(c)
}

// addTimes adds a * x to as many limbs of c, and returns what is carried.
func addTimes(c, a []uint32, x uint32) uint32 {
	carry := uint64(0)
	for i, y := range a {
		carry += uint64(c[i]) + uint64(x)*uint64(y)
		c[i] = uint32(carry)
		carry >>= 32
	}
	return uint32(carry)
}

// power returns a to the power n, and raises ErrRange if n is below 0.
func power(a api.Nat, n int) api.Nat {
	if n < 0 {
		panic(api.ErrRange)
	}
	p := api.Nat{1}
	// From the highest bit of n down, every p is a to a power of at most n: if
	// one of them exceeds the limit, so does the result.
	for i := bits.Len(uint(n)) - 1; i >= 0; i-- {
		p = product(p, p)
		if n>>i&1 == 1 {
			p = product(p, a)
		}
	}
	return p
}
