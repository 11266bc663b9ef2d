package matrix_test

import (
	"math/big"
	"math/bits"

	"schisma/api"
)

// The functions of this file find out in another way, with the integers of the library where elements may grow, what package matrix is to return.

// echelon returns the Hermite form of rows of any length, which it changes.
func echelon(rows [][]*big.Int) [][]*big.Int {
	done := 0
	for c := 0; len(rows) > 0 && c < len(rows[0]); c++ {
		for i := done + 1; i < len(rows); i++ {
			for rows[i][c].Sign() != 0 {
				subtract(rows[done], rows[i], c)
				rows[done], rows[i] = rows[i], rows[done]
			}
		}
		if done == len(rows) || rows[done][c].Sign() == 0 {
			continue
		}
		if rows[done][c].Sign() < 0 {
			for _, e := range rows[done] {
				e.Neg(e)
			}
		}
		for i := range done {
			subtract(rows[i], rows[done], c)
		}
		done++
	}
	return rows[:done]
}

// subtract takes that multiple of b from a that leaves a remainder from 0 on in a column.
func subtract(a, b []*big.Int, column int) {
	quotient, _ := new(big.Int).DivMod(a[column], b[column], new(big.Int))
	for c, e := range b {
		a[c].Sub(a[c], new(big.Int).Mul(quotient, e))
	}
}

// wantHermite returns the Hermite form of a matrix.
func wantHermite(rows []api.Vec) []api.Vec {
	var list [][]*big.Int
	for _, row := range rows {
		var r []*big.Int
		for _, e := range row {
			r = append(r, big.NewInt(int64(e)))
		}
		list = append(list, r)
	}
	return small(echelon(list))
}

// wantKernel returns the kernel of a matrix: what is left, behind zeros, of its transpose beside the unit rows.
func wantKernel(rows []api.Vec) []api.Vec {
	var list [][]*big.Int
	for c, one := range identity() {
		var r []*big.Int
		for _, row := range rows {
			r = append(r, big.NewInt(int64(row[c])))
		}
		for _, e := range one {
			r = append(r, big.NewInt(int64(e)))
		}
		list = append(list, r)
	}
	var left [][]*big.Int
	for _, row := range echelon(list) {
		sign := 0
		for _, e := range row[:len(rows)] {
			sign |= e.Sign()
		}
		if sign == 0 {
			left = append(left, row[len(rows):])
		}
	}
	return small(left)
}

// small returns rows of six integers each, which are to be small enough.
func small(list [][]*big.Int) []api.Vec {
	var rows []api.Vec
	for _, row := range list {
		var v api.Vec
		for c, e := range row {
			if !e.IsInt64() {
				panic("no int: " + e.String())
			}
			v[c] = int(e.Int64())
		}
		rows = append(rows, v)
	}
	return rows
}

// chosen returns all sets of k of the numbers from 0 to n - 1.
func chosen(n, k int) [][]int {
	var list [][]int
	for set := range uint(1) << n {
		if bits.OnesCount(set) != k {
			continue
		}
		var one []int
		for i := range n {
			if set>>i&1 > 0 {
				one = append(one, i)
			}
		}
		list = append(list, one)
	}
	return list
}

// determinant returns that of the elements in some rows and columns, by elimination without fractions.
func determinant(rows []api.Vec, in, columns []int) *big.Int {
	n := len(in)
	m := make([][]*big.Int, n)
	for i := range m {
		for _, c := range columns {
			m[i] = append(m[i], big.NewInt(int64(rows[in[i]][c])))
		}
	}
	sign, before := 1, big.NewInt(1)
	for k := range n {
		lead := k
		for lead < n && m[lead][k].Sign() == 0 {
			lead++
		}
		if lead == n {
			return new(big.Int)
		}
		if lead > k {
			m[lead], m[k], sign = m[k], m[lead], -sign
		}
		for i := k + 1; i < n; i++ {
			for j := k + 1; j < n; j++ {
				a := new(big.Int).Mul(m[i][j], m[k][k])
				a.Sub(a, new(big.Int).Mul(m[i][k], m[k][j]))
				m[i][j] = a.Quo(a, before)
			}
		}
		before = m[k][k]
	}
	return new(big.Int).Mul(before, big.NewInt(int64(sign)))
}

// divisor returns the greatest common divisor of all minors of a size.
func divisor(rows []api.Vec, size int) *big.Int {
	d := new(big.Int)
	for _, in := range chosen(len(rows), size) {
		for _, columns := range chosen(6, size) {
			d.GCD(nil, nil, d, new(big.Int).Abs(determinant(rows, in, columns)))
		}
	}
	return d
}

// wantDivisors returns the greatest common divisors of the minors of each size, up to the last that is not 0.
func wantDivisors(rows []api.Vec) []int {
	var list []int
	for size := 1; size <= min(len(rows), 6); size++ {
		d := divisor(rows, size)
		if d.Sign() == 0 {
			break
		}
		list = append(list, int(d.Int64()))
	}
	return list
}

// inForm reports whether rows are in Hermite form, by each of its conditions.
func inForm(rows []api.Vec) bool {
	before := -1
	for i, row := range rows {
		c := pivot(row)
		if c <= before || c == 6 || row[c] < 1 {
			return false
		}
		for _, above := range rows[:i] {
			if above[c] < 0 || above[c] >= row[c] {
				return false
			}
		}
		before = c
	}
	return true
}

// pivot returns the column of the first element of a row that is not 0, or 6.
func pivot(row api.Vec) int {
	for c, e := range row {
		if e != 0 {
			return c
		}
	}
	return 6
}

// member reports whether row is a sum of integer multiples of the rows of a form.
func member(form []api.Vec, row api.Vec) bool {
	for _, lead := range form {
		c := pivot(lead)
		if row[c]%lead[c] != 0 {
			return false
		}
		row = plus(row, lead, -row[c]/lead[c])
	}
	return row == api.Vec{}
}
