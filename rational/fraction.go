package rational

import (
	"cmp"

	"schisma/api"
)

// fraction is a quotient that need not be in lowest terms. The operations take
// fractions whose parts are those of numbers, at most 10^9, so that the sum of
// two products of them is far within an int.
type fraction api.Rat

func (a fraction) plus(b fraction) fraction {
	return fraction{N: a.N*b.D + b.N*a.D, D: a.D * b.D}
}

func (a fraction) minus(b fraction) fraction {
	return fraction{N: a.N*b.D - b.N*a.D, D: a.D * b.D}
}

func (a fraction) times(b fraction) fraction {
	return fraction{N: a.N * b.N, D: a.D * b.D}
}

// over returns a / b, whose denominator is 0 if b is.
func (a fraction) over(b fraction) fraction {
	return fraction{N: a.N * b.D, D: a.D * b.N}
}

// reduce returns the number that a is. It raises ErrZero if the denominator is
// 0, and ErrRange if there is no such number.
func reduce(a fraction) api.Rat {
	if a.D == 0 {
		panic(api.ErrZero)
	}
	n, d := magnitude(a.N), magnitude(a.D)
	common := divisor(n, d)
	n, d = n/common, d/common
	if n > api.MaxRat || d > api.MaxRat {
		panic(api.ErrRange)
	}
	if (a.N < 0) != (a.D < 0) {
		return api.Rat{N: -int(n), D: int(d)}
	}
	return api.Rat{N: int(n), D: int(d)}
}

// signed has the integers that may be below 0.
type signed interface {
	~int | ~int8 | ~int16 | ~int32 | ~int64
}

// magnitude returns the absolute value of n. It is unsigned, as that of the
// least int is not an int.
func magnitude[T signed](n T) uint64 {
	if n < 0 {
		return -uint64(n)
	}
	return uint64(n)
}

// divisor returns the greatest common divisor of a and b.
func divisor(a, b uint64) uint64 {
	for b > 0 {
		a, b = b, a%b
	}
	return a
}

// compare returns the sign of a - b.
func compare(a, b api.Rat) int {
	return cmp.Compare(a.N*b.D, b.N*a.D)
}

// floor returns the greatest integer that is not above a.
func floor(a api.Rat) int {
	if a.N%a.D < 0 {
		return a.N/a.D - 1
	}
	return a.N / a.D
}
