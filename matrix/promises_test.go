package matrix_test

import (
	"fmt"
	"math/big"
	"math/rand/v2"
	"slices"
	"testing"

	"schisma/api"
	"schisma/matrix"
)

// TestP5_2HermiteForm checks that the rows of the result are in Hermite form, and that they have the lattice of the given ones.
func TestP5_2HermiteForm(t *testing.T) {
	for _, rows := range matrices() {
		form := hermite(rows)
		if !inForm(form) {
			t.Errorf("the form of %v is %v", rows, form)
			continue
		}
		for _, row := range rows {
			if !member(form, row) {
				t.Errorf("%v is not in the lattice of %v", row, form)
			}
		}
		if a, b := divisor(rows, len(form)), divisor(form, len(form)); a.Cmp(b) != 0 {
			t.Errorf("the minors of %v have the divisor %v, those of its form %v", rows, a, b)
		}
	}
}

// TestP5_2FormOfForm checks that a matrix in Hermite form is its own form, as far as it is valid.
func TestP5_2FormOfForm(t *testing.T) {
	count := 0
	for _, rows := range matrices() {
		form := hermite(rows)
		if matrix.Valid(form) {
			count++
			got, e := matrix.Hermite(form)
			expect(t, fmt.Sprint("Hermite of ", form), got, e, form)
		}
	}
	if count < 500 {
		t.Errorf("only %d forms are valid", count)
	}
}

// changed returns a matrix of the same lattice: with its rows in another order (0), with other signs (1), or with a multiple of one row added to another one (2).
func changed(r *rand.Rand, rows []api.Vec, way int) []api.Vec {
	rows = slices.Clone(rows)
	switch {
	case len(rows) == 0:
	case way == 0:
		r.Shuffle(len(rows), func(i, j int) { rows[i], rows[j] = rows[j], rows[i] })
	case way == 1:
		for i := range rows {
			if r.IntN(2) == 0 {
				rows[i] = plus(api.Vec{}, rows[i], -1)
			}
		}
	default:
		if i, j := r.IntN(len(rows)), r.IntN(len(rows)); i != j {
			rows[i] = plus(rows[i], rows[j], number(r, 4))
		}
	}
	return rows
}

// TestP5_3SameLattice checks the forms, divisors and kernels of matrices of the same lattice.
func TestP5_3SameLattice(t *testing.T) {
	r := source()
	var count [3]int
	for _, rows := range matrices() {
		for way := range count {
			other := changed(r, rows, way)
			if !valid(other) || slices.Equal(rows, other) {
				continue
			}
			count[way]++
			form, e := matrix.Hermite(other)
			expect(t, fmt.Sprint("Hermite of ", other), form, e, hermite(rows))
			list, e := matrix.Divisors(other)
			expect(t, fmt.Sprint("Divisors of ", other), list, e, divisors(rows))
			form, e = matrix.Kernel(other)
			expect(t, fmt.Sprint("Kernel of ", other), form, e, kernel(rows))
		}
	}
	if slices.Min(count[:]) < 100 {
		t.Errorf("too few matrices: %v", count)
	}
}

// TestP5_4Rank checks the rank against the form, the divisors and the kernel.
func TestP5_4Rank(t *testing.T) {
	for _, rows := range matrices() {
		n := rank(rows)
		if n != len(hermite(rows)) || n != len(divisors(rows)) || n+len(kernel(rows)) != 6 {
			t.Errorf("%v has the rank %d, %d rows in its form, %d divisors, and %d rows in its kernel", rows, n, len(hermite(rows)), len(divisors(rows)), len(kernel(rows)))
		}
	}
}

// TestP5_5Kernel checks the products of the kernel's rows with those of the matrix, and its minors: as their divisor is 1, the kernel has each row of which it has a multiple.
func TestP5_5Kernel(t *testing.T) {
	for _, rows := range matrices() {
		list := kernel(rows)
		if !inForm(list) {
			t.Errorf("the kernel of %v is %v", rows, list)
		}
		for _, a := range list {
			for _, b := range rows {
				if greatProduct(a, b).Sign() != 0 {
					t.Errorf("the kernel of %v has %v", rows, a)
				}
			}
		}
		if d := divisor(list, len(list)); d.Cmp(big.NewInt(1)) != 0 {
			t.Errorf("the minors of the kernel of %v have the divisor %v", rows, d)
		}
	}
}

// greatProduct returns the product of two rows with great elements.
func greatProduct(a, b api.Vec) *big.Int {
	sum := new(big.Int)
	for c, e := range a {
		sum.Add(sum, new(big.Int).Mul(big.NewInt(int64(e)), big.NewInt(int64(b[c]))))
	}
	return sum
}

// TestP5_5All checks that the kernel has exactly the rows with small elements whose product with each row of a matrix is 0.
func TestP5_5All(t *testing.T) {
	r := source()
	inside, outside := 0, 0
	for range 60 {
		rows := draw(r, 1+r.IntN(4), 4)
		list := kernel(rows)
		for n := range 15625 { // 5^6
			var v api.Vec
			for c := range v {
				v[c] = n%5 - 2
				n /= 5
			}
			orthogonal := !slices.ContainsFunc(rows, func(row api.Vec) bool { return product(row, v) != 0 })
			if member(list, v) != orthogonal {
				t.Fatalf("%v and the kernel %v of %v", v, list, rows)
			}
			if orthogonal {
				inside++
			} else {
				outside++
			}
		}
	}
	if inside < 10000 || outside < 10000 {
		t.Errorf("%d rows are in the kernels, %d are not", inside, outside)
	}
}

// TestP5_6Divisors checks how the divisors divide each other, and the product of the pivots.
func TestP5_6Divisors(t *testing.T) {
	divides := func(a, b *big.Int) bool {
		return new(big.Int).Rem(b, a).Sign() == 0
	}
	for _, rows := range matrices() {
		list := []*big.Int{big.NewInt(1)}
		for _, d := range divisors(rows) {
			if d < 1 {
				t.Fatalf("%v has a divisor of %d", rows, d)
			}
			list = append(list, big.NewInt(int64(d)))
		}
		for i, d := range list[1:] {
			if !divides(list[i], d) {
				t.Errorf("the divisors of %v: %v", rows, list)
			}
			if i+2 < len(list) && !divides(new(big.Int).Mul(d, d), new(big.Int).Mul(list[i], list[i+2])) {
				t.Errorf("the squares of the divisors of %v: %v", rows, list)
			}
		}
		pivots := big.NewInt(1)
		for _, row := range hermite(rows) {
			pivots.Mul(pivots, big.NewInt(int64(row[pivot(row)])))
		}
		if !divides(list[len(list)-1], pivots) {
			t.Errorf("the last divisor of %v is %v, the product of the pivots %v", rows, list[len(list)-1], pivots)
		}
	}
}

// TestP5_7DoubleKernel checks the kernels of kernels that are valid.
func TestP5_7DoubleKernel(t *testing.T) {
	equal, greater := 0, 0
	for _, rows := range matrices() {
		list := kernel(rows)
		again, e := matrix.Kernel(list)
		if !valid(list) {
			refused(t, fmt.Sprint("Kernel of ", list), again, e)
			continue
		}
		if e != api.OK || len(again) != rank(rows) {
			t.Errorf("the kernel of the kernel of %v is %v, %v", rows, again, e)
		}
		for _, row := range rows {
			if !member(again, row) {
				t.Errorf("the kernel of the kernel of %v is %v, without %v", rows, again, row)
			}
		}
		d := append([]int{1}, divisors(rows)...)
		if form := hermite(rows); d[len(d)-1] == 1 {
			equal++
			expect(t, fmt.Sprint("Kernel of ", list), again, e, form)
		} else {
			greater++
			if slices.Equal(form, again) {
				t.Errorf("the kernel of the kernel of %v is its form", rows)
			}
		}
	}
	if equal < 100 || greater < 100 {
		t.Errorf("%d kernels of kernels are the forms, %d are greater", equal, greater)
	}
}
