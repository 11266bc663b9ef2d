package size

import "schisma/api"

// ends are two numbers of grains, the second one not below the first one. They
// may lie further out than the ends of a size.
type ends api.Size

// logarithms enclose those of the primes to the base 2, in units of 10^-9
// octaves. They need no factor with exponents in twelfths, as a twelfth of the
// unit is a grain.
var logarithms = [6]ends{
	{1000000000, 1000000000},
	{1584962500, 1584962501},
	{2321928094, 2321928095},
	{2807354922, 2807354923},
	{3459431618, 3459431619},
	{3700439718, 3700439719},
}

func (a ends) plus(b ends) ends {
	return ends{a.Lo + b.Lo, a.Hi + b.Hi}
}

func (a ends) minus(b ends) ends {
	return ends{a.Lo - b.Hi, a.Hi - b.Lo}
}

func (a ends) times(n int) ends {
	if n < 0 {
		return ends{n * a.Hi, n * a.Lo}
	}
	return ends{n * a.Lo, n * a.Hi}
}

// measure returns the size of exponents, in twelfths. Those of two pitches are
// at most 1152 apart, and lead to ends of less than 2 * 10^13.
func measure(exponents [6]int) ends {
	var sum ends
	for i, e := range exponents {
		sum = sum.plus(logarithms[i].times(e))
	}
	return sum
}

// multiplies reports whether n times an end of a size is from -MaxSize to
// MaxSize. It divides, as the product need not be an int.
func multiplies(end, n int) bool {
	if end == 0 {
		return true
	}
	most := api.MaxSize / max(end, -end)
	return -most <= n && n <= most
}
