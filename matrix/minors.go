package matrix

import (
	"iter"

	"schisma/api"
)

// choices yields each choice of size of the numbers from 0 to n - 1, in rising order.
func choices(n, size int) iter.Seq[[]int] {
	return func(yield func([]int) bool) {
		chosen := make([]int, 0, size)
		var extend func(from int) bool
		extend = func(from int) bool {
			if len(chosen) == size {
				return yield(chosen)
			}
			for i := from; i < n; i++ {
				chosen = append(chosen, i)
				if !extend(i + 1) {
					return false
				}
				chosen = chosen[:len(chosen)-1]
			}
			return true
		}
		extend(0)
	}
}

// minor returns the determinant of the elements of the chosen rows in some columns, which are as many.
func minor(rows []api.Vec, chosen, columns []int) int {
	var used [width]bool
	var expand func(depth int) int
	expand = func(depth int) int {
		if depth == len(chosen) {
			return 1
		}
		sum, sign := 0, 1
		for i, c := range columns {
			if used[i] {
				continue
			}
			if e := rows[chosen[depth]][c]; e != 0 {
				used[i] = true
				sum += sign * e * expand(depth+1)
				used[i] = false
			}
			sign = -sign
		}
		return sum
	}
	return expand(0)
}

// common returns the greatest common divisor of all minors of a size.
func common(rows []api.Vec, size int) int {
	d := 0
	for chosen := range choices(len(rows), size) {
		for columns := range choices(width, size) {
			d = divisor(d, minor(rows, chosen, columns))
			if d == 1 {
				return d
			}
		}
	}
	return d
}

// divisor returns the greatest common divisor of a and b, which is never below 0.
func divisor(a, b int) int {
	for b != 0 {
		a, b = b, a%b
	}
	return max(a, -a)
}
