package lattice_test

import (
	"math/rand/v2"
	"slices"
	"testing"

	"schisma/api"
	"schisma/lattice"
	"schisma/matrix"
)

// TestP6_2Members checks sums of multiples of the basis, as far as all that is left of them behind each row is a valid vector.
func TestP6_2Members(t *testing.T) {
	r := source()
	count := 0
	for _, rows := range matrices() {
		b := basis(rows)
		for _, top := range []int{0, 1, 2, 10, 1000, 1000000, entry} {
			v, want := drawSum(r, b, top)
			good := inside(v)
			for i := range b {
				good = good && inside(sum(b[i+1:], want[i+1:]))
			}
			if !good {
				continue
			}
			count++
			list, in, e := lattice.Member(rows, v)
			if !slices.Equal(list, want) || !in || e != api.OK {
				t.Errorf("Member of %v, %v: %v, %v, %v; want %v", rows, v, list, in, e, want)
			}
		}
	}
	if count < 2000 {
		t.Errorf("only %d members", count)
	}
}

// TestP6_2Given checks that the given rows are members, and that their coefficients lead back to them.
func TestP6_2Given(t *testing.T) {
	count := 0
	for _, rows := range matrices() {
		for _, v := range rows {
			list, in, e := lattice.Member(rows, v)
			if e == api.ErrRange {
				continue
			}
			count++
			if b := basis(rows); !in || e != api.OK || len(list) != len(b) || sum(b, list) != v {
				t.Errorf("Member of %v, %v: %v, %v, %v", rows, v, list, in, e)
			}
		}
	}
	if count < 1000 {
		t.Errorf("only %d rows", count)
	}
}

// TestP6_3Representatives checks that vectors have the same representative exactly if they differ by a member, and that this is one of them.
func TestP6_3Representatives(t *testing.T) {
	r := source()
	var count [2]int
	for _, rows := range matrices() {
		b := basis(rows)
		for _, v := range vectors(r, rows) {
			first, e := lattice.Reduce(rows, v)
			if e != api.OK {
				continue
			}
			if !has(rows, plus(v, first, -1), 1) {
				t.Errorf("%v differs from its representative %v by what is no member of %v", v, first, rows)
			}
			for _, row := range b {
				if c := pivot(row); first[c] < 0 || first[c] >= row[c] {
					t.Errorf("Reduce of %v, %v: %v", rows, v, first)
				}
			}
			difference, _ := drawSum(r, b, 3)
			if r.IntN(3) == 0 {
				difference = plus(difference, unit(r.IntN(6), 1), 1)
			}
			second, e := lattice.Reduce(rows, plus(v, difference, 1))
			if e != api.OK {
				continue
			}
			same := has(rows, difference, 1)
			if (first == second) != same {
				t.Errorf("modulo %v, %v has %v, and %v more has %v", rows, v, first, difference, second)
			}
			if same {
				count[1]++
			} else {
				count[0]++
			}
		}
	}
	if slices.Min(count[:]) < 1000 {
		t.Errorf("too few differences: %v", count)
	}
}

// TestP6_3Again checks that a representative is its own one, and that the member that it leaves has 0.
func TestP6_3Again(t *testing.T) {
	r := source()
	for _, rows := range matrices() {
		for _, v := range vectors(r, rows) {
			rest, e := lattice.Reduce(rows, v)
			if e != api.OK {
				continue
			}
			if again, e := lattice.Reduce(rows, rest); again != rest || e != api.OK {
				t.Errorf("Reduce of %v, %v: %v, %v", rows, rest, again, e)
			}
			if _, in, e := lattice.Member(rows, v); in != (rest == api.Vec{}) || e != api.OK {
				t.Errorf("Member of %v, %v: %v, %v; it has %v", rows, v, in, e, rest)
			}
		}
	}
}

// changed returns other rows of the same lattice, or, not always, of another one.
func changed(r *rand.Rand, rows []api.Vec) []api.Vec {
	rows = slices.Clone(rows)
	for range r.IntN(4) {
		if len(rows) == 0 {
			break
		}
		i, j := r.IntN(len(rows)), r.IntN(len(rows))
		switch r.IntN(5) {
		case 0:
			rows[i], rows[j] = rows[j], rows[i]
		case 1:
			rows[i] = plus(api.Vec{}, rows[i], -1)
		case 2:
			if i != j {
				rows[i] = plus(rows[i], rows[j], number(r, 2))
			}
		case 3:
			rows = append(rows, plus(rows[i], rows[j], 1))
		default:
			rows[i] = plus(api.Vec{}, rows[i], 2+r.IntN(2))
		}
	}
	return rows
}

// hasAll reports whether the lattice of rows has each of some vectors.
func hasAll(rows, list []api.Vec) bool {
	return !slices.ContainsFunc(list, func(v api.Vec) bool { return !has(rows, v, 1) })
}

// TestP6_4Equality checks that lattices are the same exactly if the rows of each are in the other one.
func TestP6_4Equality(t *testing.T) {
	r := source()
	var count [2]int
	for _, a := range matrices() {
		for range 3 {
			b := changed(r, a)
			if !matrix.Valid(b) || slices.Equal(a, b) {
				continue
			}
			want := hasAll(a, b) && hasAll(b, a)
			expectSame(t, a, b, want)
			if want {
				count[1]++
			} else {
				count[0]++
			}
		}
	}
	if slices.Min(count[:]) < 200 {
		t.Errorf("too few lattices: %v", count)
	}
}

// TestP6_5Sums checks that the sum has the rows of both, and that each lattice with the rows of both has the rows of the sum.
func TestP6_5Sums(t *testing.T) {
	r := source()
	parts := 0
	for _, great := range matrices() {
		var lists [2][]api.Vec
		for i := range lists {
			lists[i] = zeros(r.IntN(5))
			for j := range lists[i] {
				lists[i][j], _ = drawSum(r, great, 2)
			}
		}
		a, b := lists[0], lists[1]
		both := slices.Concat(a, b)
		if !matrix.Valid(both) {
			continue
		}
		form, e := lattice.Sum(a, b)
		if e != api.OK {
			t.Fatalf("Sum of %v, %v: %v", a, b, e)
		}
		// The rows of the sum need not be valid, so that the lattice of the rows of both stands for it.
		if !hasAll(both, form) || !hasAll(great, form) {
			t.Errorf("the sum of %v and %v, %v, has more than it needs", a, b, form)
		}
		if !matrix.Valid(form) {
			continue
		}
		if !hasAll(form, both) {
			t.Errorf("the sum of %v and %v, %v, has less than it needs", a, b, form)
		}
		if !hasAll(form, great) {
			parts++
		}
		expectSame(t, form, both, true)
		expectSum(t, b, a, form, api.OK)
	}
	if parts < 100 {
		t.Errorf("only %d sums are less than a lattice with both", parts)
	}
}

// TestP6_6Index checks that the indexes of two lattices, one in the other, have the index as their product, and that only equal ones have 1.
func TestP6_6Index(t *testing.T) {
	r := source()
	chains, equal := 0, 0
	for _, outer := range matrices() {
		middle := multiples(r, outer)
		inner := multiples(r, middle)
		if !matrix.Valid(middle) || !matrix.Valid(inner) {
			continue
		}
		first, e := lattice.Index(inner, middle)
		second, f := lattice.Index(middle, outer)
		whole, g := lattice.Index(inner, outer)
		if e == api.ErrRange || f == api.ErrRange || g == api.ErrRange {
			continue
		}
		if first*second != whole || e != api.OK || f != api.OK || g != api.OK {
			t.Errorf("indexes %d, %d, %d of %v in %v in %v: %v, %v, %v", first, second, whole, inner, middle, outer, e, f, g)
		}
		if whole > 1 {
			chains++
		}
		expectSame(t, middle, outer, second == 1)
		if second == 1 {
			equal++
		}
	}
	if min(chains, equal) < 100 {
		t.Errorf("%d chains, %d equal lattices", chains, equal)
	}
}

// multiples returns as many sums of multiples of rows as these are, of which some may be the rows themselves.
func multiples(r *rand.Rand, rows []api.Vec) []api.Vec {
	list := slices.Clone(rows)
	for i := range list {
		switch r.IntN(4) {
		case 0:
			list[i] = plus(api.Vec{}, rows[i], 1+r.IntN(3))
		case 1:
			list[i] = plus(rows[i], rows[r.IntN(len(rows))], -2)
		}
	}
	return list
}

// TestP6_6Classes counts the classes into which a lattice falls by the representatives of its vectors: all those whose coefficients are below the index.
func TestP6_6Classes(t *testing.T) {
	r := source()
	count := 0
	for _, sup := range matrices() {
		b := basis(sup)
		if len(b) == 0 || len(b) > 3 || !matrix.Valid(b) {
			continue
		}
		sub := multiples(r, b)
		if !matrix.Valid(sub) {
			continue
		}
		n, e := lattice.Index(sub, b)
		if e != api.OK || n < 2 || n > 12 {
			continue
		}
		classes := map[api.Vec]bool{}
		good := true
		coefficients := make([]int, len(b))
		for range power(n, len(b)) {
			rest, e := lattice.Reduce(sub, sum(b, coefficients))
			good = good && e == api.OK
			classes[rest] = true
			increase(coefficients, n)
		}
		if !good {
			continue
		}
		count++
		if len(classes) != n {
			t.Errorf("%v falls into %d classes modulo %v, and has the index %d", b, len(classes), sub, n)
		}
	}
	if count < 30 {
		t.Errorf("only %d lattices", count)
	}
}

// power returns n, multiplied so often with itself.
func power(n, times int) int {
	p := 1
	for range times {
		p *= n
	}
	return p
}

// increase adds 1 to a number that is written in digits to the base n.
func increase(digits []int, n int) {
	for i := range digits {
		digits[i]++
		if digits[i] < n {
			return
		}
		digits[i] = 0
	}
}

// TestP6_7Orders checks that the order leads into the lattice, and that no order's part by a prime does. A vector has an order exactly if its multiple by the last divisor of the rows is a member.
func TestP6_7Orders(t *testing.T) {
	r := source()
	orders, none := 0, 0
	for _, rows := range matrices() {
		some := lastDivisor(rows)
		for _, v := range vectors(r, rows) {
			n, e := lattice.Order(rows, v)
			if e != api.OK {
				continue
			}
			if has(rows, v, some) != (n > 0) || n < 0 {
				t.Errorf("Order of %v, %v: %d; that %d leads to a member is %v", rows, v, n, some, has(rows, v, some))
			}
			if n <= 0 {
				none++
				continue
			}
			orders++
			if !has(rows, v, n) {
				t.Errorf("Order of %v, %v: %d, which leads to no member", rows, v, n)
			}
			for _, p := range primes(n) {
				if has(rows, v, n/p) {
					t.Errorf("Order of %v, %v: %d, but %d leads to a member", rows, v, n, n/p)
				}
			}
			if _, in, e := lattice.Member(rows, v); e == api.OK && in != (n == 1) {
				t.Errorf("Order of %v, %v: %d; that it is a member is %v", rows, v, n, in)
			}
		}
	}
	if min(orders, none) < 1000 {
		t.Errorf("%d orders, %d vectors without one", orders, none)
	}
}

// lastDivisor returns the last divisor of a valid matrix, or 1 if there is none.
func lastDivisor(rows []api.Vec) int {
	list, e := matrix.Divisors(rows)
	if e != api.OK {
		panic(e)
	}
	return append([]int{1}, list...)[len(list)]
}

// primes returns the primes that divide n.
func primes(n int) []int {
	var list []int
	for p := 2; p*p <= n; p++ {
		if n%p == 0 {
			list = append(list, p)
		}
		for n%p == 0 {
			n /= p
		}
	}
	if n > 1 {
		list = append(list, n)
	}
	return list
}

// TestManySmall checks the members, representatives and orders of all lattices of two rows, whose elements in two columns are from -2 to 2, against all their small members.
func TestManySmall(t *testing.T) {
	for n := range 625 { // 5^4
		var e [4]int
		for i := range e {
			e[i] = n%5 - 2
			n /= 5
		}
		rows := []api.Vec{{0, e[0], 0, 0, e[1]}, {0, e[2], 0, 0, e[3]}}
		var in [65][65]bool
		for i := -128; i <= 128; i++ {
			for j := -128; j <= 128; j++ {
				if x, y := i*e[0]+j*e[2]+32, i*e[1]+j*e[3]+32; x >= 0 && x <= 64 && y >= 0 && y <= 64 {
					in[x][y] = true
				}
			}
		}
		rests := map[api.Vec][2]int{}
		for x := -4; x <= 4; x++ {
			for y := -4; y <= 4; y++ {
				v := api.Vec{0, x, 0, 0, y}
				if _, member, e := lattice.Member(rows, v); member != in[32+x][32+y] || e != api.OK {
					t.Fatalf("Member of %v, %v: %v, %v", rows, v, member, e)
				}
				order := 0
				for k := 8; k > 0; k-- {
					if in[32+k*x][32+k*y] {
						order = k
					}
				}
				expectOrder(t, rows, v, order, api.OK)
				rest, e := lattice.Reduce(rows, v)
				other, old := rests[rest]
				if old && !in[32+x-other[0]][32+y-other[1]] || e != api.OK {
					t.Fatalf("Reduce of %v, %v: %v as for %v, %v", rows, v, rest, other, e)
				}
				if !old {
					for _, other := range rests {
						if in[32+x-other[0]][32+y-other[1]] {
							t.Fatalf("Reduce of %v, %v: %v, not as for %v", rows, v, rest, other)
						}
					}
					rests[rest] = [2]int{x, y}
				}
			}
		}
	}
}
