package matrix

import (
	"slices"

	"schisma/api"
)

// A frame of a matrix has as many of its columns as its rank is, a minor in these columns that is not 0, and a row for each of them: a sum of multiples of rows of the matrix, with the minor in its own column and 0 in the other ones. Each element of a row is a minor of the matrix (or its opposite, or 0), too. So each row of the lattice is the sum of the frame's rows, times its elements in the columns, divided by the minor.
type frame struct {
	columns []int
	minor   int
	rows    []api.Vec
}

// first returns the frame with the columns that lead the Hermite form: each is the first one that does not depend on those before it.
func first(rows []api.Vec) frame {
	return build(rows, []int{0, 1, 2, 3, 4, 5})
}

// last returns the frame whose columns are all but those that lead the Hermite form of the kernel.
func last(rows []api.Vec) frame {
	return build(rows, []int{5, 4, 3, 2, 1, 0})
}

// build returns the frame with the columns that do not depend on those before them in order. A column depends on them exactly if no further row makes the minor greater by one row and one column without making it 0.
func build(rows []api.Vec, order []int) frame {
	f := frame{minor: 1}
	var chosen []int
	for _, c := range order {
		columns := append(f.columns, c)
		for i := range rows {
			more := append(chosen, i)
			if m := minor(rows, more, columns); m != 0 {
				chosen, f.columns, f.minor = more, columns, m
				break
			}
		}
	}
	for i := range f.columns {
		f.rows = append(f.rows, replaced(rows, chosen, f.columns, i))
	}
	return f
}

// replaced returns, for each column, the minor with this column in the place of columns[i], by Cramer's rule.
func replaced(rows []api.Vec, chosen, columns []int, i int) api.Vec {
	var row api.Vec
	other := slices.Clone(columns)
	for c := range row {
		other[i] = c
		row[c] = minor(rows, chosen, other)
	}
	return row
}

// combined returns the sum of rows, times the weights, divided by d. Weights and elements are at most MaxVolume, and rows at most six, so that the sum is an int.
func combined(weights []int, rows []api.Vec, d int) api.Vec {
	var sum api.Vec
	for i, row := range rows {
		for c, e := range row {
			sum[c] += weights[i] * e
		}
	}
	for c := range sum {
		sum[c] /= d
	}
	return sum
}
