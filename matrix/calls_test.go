package matrix_test

import (
	"fmt"
	"slices"
	"testing"

	"schisma/api"
	"schisma/matrix"
)

// The tests of this file check P5.1, from E1 to E5.

func TestValid(t *testing.T) {
	for _, rows := range matrices() {
		if !matrix.Valid(rows) {
			t.Errorf("%v is said to be no matrix", rows)
		}
	}
	for _, rows := range invalid() {
		if matrix.Valid(rows) {
			t.Errorf("%v is said to be a matrix", rows)
		}
	}
}

func TestValidAtTheBounds(t *testing.T) {
	for _, x := range []struct {
		rows []api.Vec
		want bool
	}{
		{nil, true}, {[]api.Vec{}, true}, {repeated(api.Vec{}, 8), true}, {repeated(api.Vec{}, 9), false}, {repeated(unit(2, -1), 8), true}, {repeated(unit(2, -1), 9), false},
		{[]api.Vec{unit(0, entry)}, true}, {[]api.Vec{unit(5, -entry)}, true}, {[]api.Vec{unit(0, entry+1)}, false}, {[]api.Vec{unit(5, -entry-1)}, false},
		{[]api.Vec{{entry - 1, 1}}, true}, {[]api.Vec{{entry - 1, -1}}, true}, {[]api.Vec{{entry, 1}}, false}, {[]api.Vec{{entry, -1}}, false}, {[]api.Vec{{entry - 1, -2}}, false},
		{[]api.Vec{{}, unit(1, entry), {}, unit(1, -1), {}, {}, {}, {}}, true}, {[]api.Vec{{}, unit(1, entry), {}, unit(1, -2)}, false},
		{[]api.Vec{{500000000}, {0, 2}}, true}, {[]api.Vec{{500000000}, {0, 1, -1}}, true}, {[]api.Vec{{500000000, 1}, {0, 2}}, false}, {[]api.Vec{{333333333}, {3}}, true}, {[]api.Vec{{333333334}, {3}}, false},
		{[]api.Vec{{1000}, {0, 1000}, {0, 0, 1000}}, true}, {[]api.Vec{{1000}, {0, 1000}, {0, 0, 1000, 1}}, false}, {[]api.Vec{{1001}, {0, 999000}}, true}, {[]api.Vec{{1001}, {0, 999001}}, false},
		{repeated(api.Vec{8, 1, -1, 1, -1, 1}, 8), true}, {repeated(api.Vec{9, 1, -1, 1, -1, 1}, 8), false}, {repeated(api.Vec{5, -5, 5, -5, 5, -6}, 6), true}, {repeated(api.Vec{5, -5, 5, -5, 5, -7}, 6), false},
	} {
		if got := matrix.Valid(x.rows); got != x.want {
			t.Errorf("Valid of %v: %v", x.rows, got)
		}
	}
}

// TestInvalid checks the error of E2 to E5.
func TestInvalid(t *testing.T) {
	for _, rows := range invalid() {
		form, e := matrix.Hermite(rows)
		refused(t, fmt.Sprint("Hermite of ", rows), form, e)
		n, e := matrix.Rank(rows)
		if n != 0 || e != api.ErrArg {
			t.Errorf("Rank of %v: %d, %v", rows, n, e)
		}
		list, e := matrix.Divisors(rows)
		refused(t, fmt.Sprint("Divisors of ", rows), list, e)
		form, e = matrix.Kernel(rows)
		refused(t, fmt.Sprint("Kernel of ", rows), form, e)
	}
}

func TestHermiteExamples(t *testing.T) {
	for _, x := range []struct{ rows, want []api.Vec }{
		{[]api.Vec{{12, 19, 28}, {19, 30, 44}}, []api.Vec{{1, 0, -4}, {0, 1, 4}}},
		{[]api.Vec{{4}, {6}}, []api.Vec{{2}}},
		{nil, nil}, {repeated(api.Vec{}, 8), nil}, {[]api.Vec{{}, {0, 0, -3}, {}}, []api.Vec{{0, 0, 3}}},
		{[]api.Vec{{-4, 4, -1}, {8, -8, 2}}, []api.Vec{{4, -4, 1}}},
		{[]api.Vec{{-4, 4, -1}, {7, 0, -3}}, []api.Vec{{1, 20, -14}, {0, 28, -19}}},
		{[]api.Vec{{6, 1}, {10, 1}, {15, 1}}, []api.Vec{{1, 0}, {0, 1}}},
		{[]api.Vec{{6}, {0, 10}, {0, 0, 15}}, []api.Vec{{6}, {0, 10}, {0, 0, 15}}},
		{[]api.Vec{{6, 4}, {6, 10}}, []api.Vec{{6, 4}, {0, 6}}},
		{[]api.Vec{{1, -7}, {0, 5}}, []api.Vec{{1, 3}, {0, 5}}}, {[]api.Vec{{1, 7}, {0, 5}}, []api.Vec{{1, 2}, {0, 5}}},
		{[]api.Vec{{1, 5}, {0, 5}}, []api.Vec{{1, 0}, {0, 5}}}, {[]api.Vec{{1, 4}, {0, 5}}, []api.Vec{{1, 4}, {0, 5}}}, {[]api.Vec{{1, -1}, {0, -5}}, []api.Vec{{1, 4}, {0, 5}}},
		{[]api.Vec{{0, 0, 1, 9}, {0, 0, 0, 4}, {0, 3, 8, 0}}, []api.Vec{{0, 3, 0, 0}, {0, 0, 1, 1}, {0, 0, 0, 4}}},
		{append(identity(), unit(0, 5), unit(3, -7)), identity()},
		{[]api.Vec{unit(3, -entry)}, []api.Vec{unit(3, entry)}},
	} {
		got, e := matrix.Hermite(x.rows)
		expect(t, fmt.Sprint("Hermite of ", x.rows), got, e, x.want)
	}
}

func TestHermite(t *testing.T) {
	for _, rows := range matrices() {
		got, e := matrix.Hermite(rows)
		expect(t, fmt.Sprint("Hermite of ", rows), got, e, wantHermite(rows))
	}
}

func TestRank(t *testing.T) {
	for _, x := range []struct {
		rows []api.Vec
		want int
	}{
		{[]api.Vec{{-4, 4, -1}, {8, -8, 2}}, 1}, {nil, 0}, {repeated(api.Vec{}, 8), 0}, {repeated(api.Vec{1, 1}, 8), 1}, {identity(), 6}, {append(identity(), identity()[:2]...), 6},
		{[]api.Vec{{1, 2, 3}, {4, 5, 6}, {7, 8, 9}}, 2}, {[]api.Vec{{1, 2, 3}, {4, 5, 6}, {7, 8, 10}}, 3}, {[]api.Vec{{0, 0, 0, 0, 0, entry}}, 1},
		{[]api.Vec{{0, 1}, {1}, {1, 1}, {1, -1}, {2, 3}, {}, {3, 2}}, 2}, {[]api.Vec{{0, 0, 1}, {0, 1}, {1}}, 3},
	} {
		if got, e := matrix.Rank(x.rows); got != x.want || e != api.OK {
			t.Errorf("Rank of %v: %d, %v", x.rows, got, e)
		}
	}
	count := map[int]int{}
	for _, rows := range matrices() {
		want := len(wantHermite(rows))
		count[want]++
		if got, e := matrix.Rank(rows); got != want || e != api.OK {
			t.Errorf("Rank of %v: %d, %v; want %d", rows, got, e, want)
		}
	}
	for n := range 7 {
		if count[n] < 5 {
			t.Errorf("only %d matrices of rank %d", count[n], n)
		}
	}
}

func TestDivisorsExamples(t *testing.T) {
	for _, x := range []struct {
		rows []api.Vec
		want []int
	}{
		{[]api.Vec{{2}, {0, 6}}, []int{2, 12}}, {nil, nil}, {repeated(api.Vec{}, 8), nil}, {[]api.Vec{{-4, 4, -2}}, []int{2}}, {[]api.Vec{{4, -6}, {-8, 12}}, []int{2}},
		{[]api.Vec{{6}, {0, 10}, {0, 0, 15}}, []int{1, 30, 900}}, {[]api.Vec{{6}, {10}, {15}}, []int{1}}, {[]api.Vec{{2, 2}, {2, -2}}, []int{2, 8}}, {[]api.Vec{{1, 2, 3}, {4, 5, 6}, {7, 8, 9}}, []int{1, 3}},
		{identity(), []int{1, 1, 1, 1, 1, 1}}, {append(identity(), unit(1, 2), unit(0, 7)), []int{1, 1, 1, 1, 1, 1}}, {[]api.Vec{{1000}, {0, 0, -1000}, {0, 0, 0, 0, 0, 1000}}, []int{1000, 1000000, 1000000000}},
		{[]api.Vec{{0, -entry}}, []int{entry}}, {[]api.Vec{{31}, {0, 31}, {0, 0, 31}, {0, 0, 0, 31}, {0, 0, 0, 0, 31}, {0, 0, 0, 0, 0, 31}}, []int{31, 961, 29791, 923521, 28629151, 887503681}},
	} {
		got, e := matrix.Divisors(x.rows)
		expect(t, fmt.Sprint("Divisors of ", x.rows), got, e, x.want)
	}
}

func TestDivisors(t *testing.T) {
	lesser := 0
	list := matrices()
	for i := 0; i < len(list); i += 2 {
		want := wantDivisors(list[i])
		if len(want) < min(len(list[i]), 6) {
			lesser++
		}
		got, e := matrix.Divisors(list[i])
		expect(t, fmt.Sprint("Divisors of ", list[i]), got, e, want)
	}
	if lesser < 100 {
		t.Errorf("only %d matrices are not of full rank", lesser)
	}
}

func TestKernelExamples(t *testing.T) {
	for _, x := range []struct{ rows, want []api.Vec }{
		{[]api.Vec{{12, 19, 28}, {19, 30, 44}}, []api.Vec{{4, -4, 1}, unit(3, 1), unit(4, 1), unit(5, 1)}},
		{nil, identity()}, {repeated(api.Vec{}, 8), identity()}, {identity(), nil}, {append(identity(), api.Vec{1, 2, 3, 4, 5, 6}), nil},
		{[]api.Vec{unit(0, 1), unit(1, -2), unit(2, 3), unit(4, 5), unit(5, 6)}, []api.Vec{unit(3, 1)}},
		{[]api.Vec{unit(2, 7)}, slices.Delete(identity(), 2, 3)}, {[]api.Vec{{entry}}, identity()[1:]}, {[]api.Vec{unit(5, -entry)}, identity()[:5]},
		{[]api.Vec{{2, 3}}, []api.Vec{{3, -2}, unit(2, 1), unit(3, 1), unit(4, 1), unit(5, 1)}}, {[]api.Vec{{4, 6}, {-2, -3}}, []api.Vec{{3, -2}, unit(2, 1), unit(3, 1), unit(4, 1), unit(5, 1)}},
		{[]api.Vec{{1, 1, 1, 1, 1, 1}}, []api.Vec{{1, 0, 0, 0, 0, -1}, {0, 1, 0, 0, 0, -1}, {0, 0, 1, 0, 0, -1}, {0, 0, 0, 1, 0, -1}, {0, 0, 0, 0, 1, -1}}},
		{[]api.Vec{{499999999, 500000001}}, []api.Vec{{500000001, -499999999}, unit(2, 1), unit(3, 1), unit(4, 1), unit(5, 1)}},
		{[]api.Vec{{6, 10, 15}}, []api.Vec{{5, 0, -2}, {0, 3, -2}, unit(3, 1), unit(4, 1), unit(5, 1)}},
	} {
		got, e := matrix.Kernel(x.rows)
		expect(t, fmt.Sprint("Kernel of ", x.rows), got, e, x.want)
	}
}

func TestKernel(t *testing.T) {
	for _, rows := range matrices() {
		got, e := matrix.Kernel(rows)
		expect(t, fmt.Sprint("Kernel of ", rows), got, e, wantKernel(rows))
	}
}

// TestManySmall checks all matrices of two rows whose elements in three columns, drawn for each of them, are from -2 to 2.
func TestManySmall(t *testing.T) {
	r := source()
	columns := chosen(6, 3)
	for n := range 15625 { // 5^6
		var rows [2]api.Vec
		in := columns[r.IntN(len(columns))]
		for i := range rows {
			for _, c := range in {
				rows[i][c] = n%5 - 2
				n /= 5
			}
		}
		got, e := matrix.Hermite(rows[:])
		want := wantHermite(rows[:])
		expect(t, fmt.Sprint("Hermite of ", rows), got, e, want)
		got, e = matrix.Kernel(rows[:])
		expect(t, fmt.Sprint("Kernel of ", rows), got, e, wantKernel(rows[:]))
		if n, e := matrix.Rank(rows[:]); n != len(want) || e != api.OK {
			t.Errorf("Rank of %v: %d, %v", rows, n, e)
		}
	}
}

// TestElements checks the bound of the elements of results, and that some come near to that of a valid matrix.
func TestElements(t *testing.T) {
	great := 0
	for _, rows := range matrices() {
		for _, row := range append(hermite(rows), kernel(rows)...) {
			for _, e := range row {
				if e > 6*most || e < -6*most {
					t.Errorf("an element of %d for %v", e, rows)
				}
				if e > entry/4 || e < -entry/4 {
					great++
				}
			}
		}
	}
	if great < 100 {
		t.Errorf("only %d great elements", great)
	}
}
