package comma

import (
	"slices"

	"schisma/api"
	"schisma/matrix"
)

// intervals returns those of the list.
func intervals(list []api.Named) []api.Vec {
	var rows []api.Vec
	for _, n := range list {
		rows = append(rows, n.V)
	}
	return rows
}

// multiples returns how often each of the rows, the intervals of a valid list, is in v, if v is a sum of integer multiples of them; otherwise integers with another sum. A vector of the kernel of all other rows has the product 0 with each of these, so only the row itself accounts for its product with v. Some vector has a product with the row that is not 0, as the row does not depend on the others. No product leaves an int: elements of a kernel are at most 6 * MaxVolume.
func multiples(rows []api.Vec, v api.Vec) []int {
	var counts []int
	for i, row := range rows {
		kernel, _ := matrix.Kernel(slices.Concat(rows[:i], rows[i+1:]))
		k := slices.IndexFunc(kernel, func(u api.Vec) bool { return product(u, row) != 0 })
		counts = append(counts, product(kernel[k], v)/product(kernel[k], row))
	}
	return counts
}

// product returns the product of two rows.
func product(a, b api.Vec) int {
	n := 0
	for c, e := range a {
		n += e * b[c]
	}
	return n
}

// sum returns the sum of the rows, each multiplied by its count.
func sum(rows []api.Vec, counts []int) api.Vec {
	var v api.Vec
	for i, row := range rows {
		v = plus(v, row, counts[i])
	}
	return v
}

// plus returns v plus n times row.
func plus(v, row api.Vec, n int) api.Vec {
	for c, e := range row {
		v[c] += n * e
	}
	return v
}
