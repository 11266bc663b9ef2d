package natural

import (
	"math/bits"
	"slices"

	"schisma/api"
)

// quotient returns the quotient and the remainder of a and b, and raises ErrZero if b is 0.
func quotient(a, b api.Nat) (api.Nat, api.Nat) {
	if len(b) == 0 {
		panic(api.ErrZero)
	}
	if compare(a, b) < 0 {
		return nil, trim(slices.Clone(a))
	}
	if len(b) == 1 {
		q := slices.Clone(a)
		r := divideBy(q, b[0])
		return trim(q), Make(uint64(r))
	}
	return longDivision(a, b)
}

// divideBy divides limbs by d in place, and returns the remainder.
func divideBy(limbs []uint32, d uint32) uint32 {
	rest := uint32(0)
	for i := len(limbs) - 1; i >= 0; i-- {
		limbs[i], rest = bits.Div32(rest, limbs[i], d)
	}
	return rest
}

// longDivision divides a by b, which has two limbs or more and is not greater.
func longDivision(a, b api.Nat) (api.Nat, api.Nat) {
	n := len(b)
	// With the highest bit of the divisor set, the guess of each limb of the
	// quotient from the leading limbs alone is at most 2 too great.
	shift := bits.LeadingZeros32(b[n-1])
	rest := shifted(a, shift)
	divisor := shifted(b, shift)[:n]
	q := make([]uint32, len(a)-n+1)
	for i := len(q) - 1; i >= 0; i-- {
		q[i] = takeOut(rest[i:i+n+1], divisor)
	}
	return trim(q), trim(shiftedBack(rest[:n], shift))
}

// takeOut takes divisor out of rest, which has one limb more, as often as possible, and returns how often.
func takeOut(rest, divisor []uint32) uint32 {
	n := len(divisor)
	times := guess(rest[n], rest[n-1], divisor[n-1])
	under := subTimes(rest, divisor, times)
	for under == 1 {
		times--
		under -= addBack(rest, divisor)
	}
	return times
}

// guess returns the quotient of the two limbs high and low and the limb d, or the greatest limb if that is less.
func guess(high, low, d uint32) uint32 {
	if high >= d {
		return 1<<32 - 1
	}
	q, _ := bits.Div32(high, low, d)
	return q
}

// subTimes subtracts a * x from c, which has one limb more, and returns 1 if that leads below 0, otherwise 0.
func subTimes(c, a []uint32, x uint32) uint32 {
	carry, borrow := uint64(0), uint32(0)
	for i, y := range a {
		carry += uint64(x) * uint64(y)
		c[i], borrow = bits.Sub32(c[i], uint32(carry), borrow)
		carry >>= 32
	}
	last := len(a)
	c[last], borrow = bits.Sub32(c[last], uint32(carry), borrow)
	return borrow
}

// addBack adds a to c, which has one limb more, and returns 1 if that leads from below 0 back, otherwise 0.
func addBack(c, a []uint32) uint32 {
	carry := uint32(0)
	for i, y := range a {
		c[i], carry = bits.Add32(c[i], y, carry)
	}
	last := len(a)
	c[last], carry = bits.Add32(c[last], 0, carry)
	return carry
}

// shifted returns limbs times 2^n, with one limb more; n is below 32.
func shifted(limbs []uint32, n int) []uint32 {
	out := make([]uint32, len(limbs)+1)
	for i, x := range limbs {
		wide := uint64(x) << n
		out[i] |= uint32(wide)
		out[i+1] = uint32(wide >> 32)
	}
	return out
}

// shiftedBack returns limbs divided by 2^n; n is below 32.
func shiftedBack(limbs []uint32, n int) []uint32 {
	out := make([]uint32, len(limbs))
	high := uint32(0)
	for i := len(limbs) - 1; i >= 0; i-- {
		wide := uint64(high)<<32 | uint64(limbs[i])
		out[i] = uint32(wide >> n)
		high = limbs[i]
	}
	return out
}
