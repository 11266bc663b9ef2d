package rational

import "schisma/api"

// simplest returns the number with the least denominator from low to high; of
// several the one that is next to 0.
func simplest(low, high api.Rat) api.Rat {
	if low.N > 0 {
		return between(low, high)
	}
	if high.N >= 0 {
		return api.Rat{N: 0, D: 1}
	}
	a := between(api.Rat{N: -high.N, D: high.D}, api.Rat{N: -low.N, D: low.D})
	return api.Rat{N: -a.N, D: a.D}
}

// between returns the simplest number from low to high, both of which are above
// 0. Where no integer lies between them, both have the same whole part, and the
// rest of the simplest number is 1 / the simplest number between the inverses of
// what is left of them: so it goes as in Euclid's algorithm, and as soon to its end.
func between(low, high api.Rat) api.Rat {
	whole, left := low.N/low.D, low.N%low.D
	if left == 0 {
		return api.Rat{N: whole, D: 1}
	}
	if high.N/high.D > whole {
		return api.Rat{N: whole + 1, D: 1}
	}
	rest := between(api.Rat{N: high.D, D: high.N % high.D}, api.Rat{N: low.D, D: left})
	return api.Rat{N: whole*rest.N + rest.D, D: rest.N}
}
