package pitch

// bounded reports whether all of list are from -most to most.
func bounded(list [6]int, most int) bool {
	for _, e := range list {
		if e < -most || e > most {
			return false
		}
	}
	return true
}

// sum returns the exponents a plus n times the exponents b.
func sum(a, b [6]int, n int) [6]int {
	for i, e := range b {
		a[i] += n * e
	}
	return a
}

// divided returns list divided by d, and whether d divides all of it.
func divided(list [6]int, d int) ([6]int, bool) {
	for i, e := range list {
		if e%d != 0 {
			return [6]int{}, false
		}
		list[i] = e / d
	}
	return list, true
}

// divisor returns the greatest common divisor of a and b, which is never below 0.
func divisor(a, b int) int {
	for b != 0 {
		a, b = b, a%b
	}
	return max(a, -a)
}
