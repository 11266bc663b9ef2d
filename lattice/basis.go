package lattice

import (
	"iter"
	"slices"

	"schisma/api"
	"schisma/matrix"
)

// form is the rows of a matrix in Hermite form.
type form []api.Vec

// A basis is that of a lattice, with the column of the pivot of each row.
type basis struct {
	form
	columns []int
}

// A step leads from a vector to the next one by the row of a basis that has the index i.
type step func(i int, v api.Vec) api.Vec

// basisOf returns the basis of the lattice of rows, or ErrArg if they are not valid.
func basisOf(rows []api.Vec) (basis, api.Errno) {
	list, e := matrix.Hermite(rows)
	b := basis{form: list}
	for _, row := range list {
		b.columns = append(b.columns, slices.IndexFunc(row[:], func(n int) bool { return n != 0 }))
	}
	return b, e
}

// basisFor returns the basis of the lattice of rows, or ErrArg if rows or v are not valid.
func basisFor(rows []api.Vec, v api.Vec) (basis, api.Errno) {
	if !valid(v) {
		return basis{}, api.ErrArg
	}
	return basisOf(rows)
}

// valid reports whether v is a valid vector.
func valid(v api.Vec) bool {
	return !slices.ContainsFunc(v[:], func(n int) bool { return n < -api.MaxEntry || n > api.MaxEntry })
}

// pivot returns the pivot of the row i.
func (b basis) pivot(i int) int {
	return b.form[i][b.columns[i]]
}

// product returns the product of the pivots. It is at most MaxVolume: it divides the minors of the given rows in the columns of the pivots, and one of these is not 0.
func (b basis) product() int {
	n := 1
	for i := range b.form {
		n *= b.pivot(i)
	}
	return n
}

// coefficient returns that of the row i for the remainder v.
func (b basis) coefficient(i int, v api.Vec) int {
	n := v[b.columns[i]]
	q := n / b.pivot(i)
	if n%b.pivot(i) < 0 {
		q--
	}
	return q
}

// remainder is the step to the next remainder.
func (b basis) remainder(i int, v api.Vec) api.Vec {
	return plus(v, b.form[i], -b.coefficient(i, v))
}

// multiplier returns the least positive integer that makes the entry of v in the column of the pivot of the row i a multiple of the pivot.
func (b basis) multiplier(i int, v api.Vec) int {
	return b.pivot(i) / divisor(b.pivot(i), v[b.columns[i]])
}

// member returns what Member does for a valid vector.
func (b basis) member(v api.Vec) ([]int, bool, api.Errno) {
	var list []int
	noted := func(i int, v api.Vec) api.Vec {
		list = append(list, b.coefficient(i, v))
		return b.remainder(i, v)
	}
	rest, e := b.last(v, noted)
	if e != api.OK || rest != (api.Vec{}) {
		return nil, false, e
	}
	return list, true, api.OK
}

// last returns the last vector to which the steps lead from v, or ErrRange if one of them is not valid.
func (b basis) last(v api.Vec, steps ...step) (api.Vec, api.Errno) {
	e := api.OK
	ends := func(v api.Vec) bool {
		if !valid(v) {
			e = api.ErrRange
		}
		return e != api.OK
	}
	for next := range b.remainders(v, ends, steps) {
		v = next
	}
	if e != api.OK {
		return api.Vec{}, e
	}
	return v, api.OK
}

// remainders yields the vectors to which the steps lead from v, row by row, up to the one at which the search ends. As long as they are valid, no product leaves an int: a pivot is at most MaxVolume, and no entry of a row exceeds 6 * MaxVolume.
func (b basis) remainders(v api.Vec, ends func(api.Vec) bool, steps []step) iter.Seq[api.Vec] {
	return func(yield func(api.Vec) bool) {
		at := v
		for i := range b.form {
			for _, next := range steps {
				at = next(i, at)
				if ends(at) || !yield(at) {
					return
				}
			}
		}
	}
}

// plus returns v plus n times row.
func plus(v, row api.Vec, n int) api.Vec {
	for c, e := range row {
		v[c] += n * e
	}
	return v
}

// divisor returns the greatest common divisor of a, which is above 0, and b.
func divisor(a, b int) int {
	for b != 0 {
		a, b = b, a%b
	}
	return max(a, -a)
}
