package pitch

import (
	"iter"

	"schisma/api"
	"schisma/natural"
)

// primes are the primes in their order.
var primes = [6]int{2, 3, 5, 7, 11, 13}

// power is a prime with an exponent.
type power struct{ prime, exponent int }

// powers yields the primes of list, in their order, whose exponent is not 0.
func powers(list [6]int) iter.Seq[power] {
	return func(yield func(power) bool) {
		for i, prime := range primes {
			if list[i] != 0 && !yield(power{prime, list[i]}) {
				return
			}
		}
	}
}

// product returns the product of list, whose exponents are above 0. Those of
// two pitches are at most 1152 apart: the product of all primes to this power
// has 536 limbs, so that no natural number here exceeds the limit.
func product(list ...power) api.Nat {
	result := natural.Make(1)
	for _, p := range list {
		factor, _ := natural.Pow(natural.Make(uint64(p.prime)), p.exponent)
		result, _ = natural.Mul(result, factor)
	}
	return result
}

// fraction returns the numerator and the denominator of the product of the
// primes to the power of the whole exponents list.
func fraction(list [6]int) (api.Nat, api.Nat) {
	var above, below []power
	for p := range powers(list) {
		if p.exponent > 0 {
			above = append(above, p)
		} else {
			below = append(below, power{p.prime, -p.exponent})
		}
	}
	return product(above...), product(below...)
}

// sign returns -1, 0 or 1 if the product of the primes to the power of list is
// less than, equal to or greater than 1. A root or a power of the product is on
// the same side of 1: so twelfths need not be told from whole exponents, and
// what the exponents have in common is left out.
func sign(list [6]int) int {
	common := 0
	for p := range powers(list) {
		common = divisor(common, p.exponent)
	}
	if common == 0 {
		return 0
	}
	list, _ = divided(list, common)
	order, _ := natural.Cmp(fraction(list))
	return order
}

// factors returns the exponents of the primes in n, which is above 0, and what
// is left of n without them.
func factors(n int) ([6]int, int) {
	var list [6]int
	for i, prime := range primes {
		for n%prime == 0 {
			n /= prime
			list[i]++
		}
	}
	return list, n
}
