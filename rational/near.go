package rational

import "schisma/api"

// side is a number beside the one that is approached: what it is off, times
// both denominators, is an integer above 0.
type side struct {
	n, d, off int
}

// toward returns s moved toward the other side as often as it stays on its own
// side and its denominator stays within most.
func (s side) toward(other side, most int) side {
	times := min(s.off/other.off, (most-s.d)/other.d)
	return side{s.n + times*other.n, s.d + times*other.d, s.off - times*other.off}
}

// nearest returns the number with a denominator of at most most that is next to a.
func nearest(a api.Rat, most int) api.Rat {
	if a.D <= most {
		return a
	}
	whole := floor(a)
	low := side{whole, 1, a.N - whole*a.D}
	high := side{whole + 1, 1, (whole+1)*a.D - a.N}
	// What lies between low and high has at least the sum of their
	// denominators. As a has more than most, neither ever reaches a.
	for low.d+high.d <= most {
		low = low.toward(high, most)
		high = high.toward(low, most)
	}
	return nearer(low, high)
}

// nearer returns the side that is less off; of two that are equally far off,
// the one with the lesser denominator, or low.
func nearer(low, high side) api.Rat {
	below, above := low.off*high.d, high.off*low.d
	if below < above || below == above && low.d <= high.d {
		return api.Rat{N: low.n, D: low.d}
	}
	return api.Rat{N: high.n, D: high.d}
}
