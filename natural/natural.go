// Package natural is layer 1: see shared/doc/01-natural.md.
package natural

import "schisma/api"

// Valid reports whether a is a natural number in its form.
func Valid(a api.Nat) bool {
	n := len(a)
	return n <= api.MaxLimbs && (n == 0 || a[n-1] != 0)
}

// Make returns n as a natural number.
func Make(n uint64) api.Nat {
	return trim([]uint32{uint32(n), uint32(n >> 32)})
}

// Add returns a + b.
func Add(a, b api.Nat) (api.Nat, api.Errno) {
	return attempt(func() api.Nat {
		require(a, b)
		return sum(a, b)
	})
}

// Sub returns a - b.
func Sub(a, b api.Nat) (api.Nat, api.Errno) {
	return attempt(func() api.Nat {
		require(a, b)
		return difference(a, b)
	})
}

// Mul returns a * b.
func Mul(a, b api.Nat) (api.Nat, api.Errno) {
	return attempt(func() api.Nat {
		require(a, b)
		return product(a, b)
	})
}

// Div returns the quotient and the remainder of a and b.
func Div(a, b api.Nat) (api.Nat, api.Nat, api.Errno) {
	parts, e := attempt(func() [2]api.Nat {
		require(a, b)
		q, r := quotient(a, b)
		return [2]api.Nat{q, r}
	})
	return parts[0], parts[1], e
}

// Pow returns a to the power n.
func Pow(a api.Nat, n int) (api.Nat, api.Errno) {
	return attempt(func() api.Nat {
		require(a)
		return power(a, n)
	})
}

// Cmp compares a with b.
func Cmp(a, b api.Nat) (int, api.Errno) {
	return attempt(func() int {
		require(a, b)
		return compare(a, b)
	})
}

// Text returns a in decimal.
func Text(a api.Nat) (string, api.Errno) {
	return attempt(func() string {
		require(a)
		return decimal(a)
	})
}

// Parse returns the natural number of a decimal string.
func Parse(s string) (api.Nat, api.Errno) {
	return attempt(func() api.Nat {
		if !isDecimal(s) {
			panic(api.ErrForm)
		}
		return number(s)
	})
}
