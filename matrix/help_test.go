package matrix_test

import (
	"math"
	"math/rand/v2"
	"slices"
	"testing"

	"schisma/api"
	"schisma/matrix"
)

// most and entry are the greatest volume and the greatest element of a matrix.
const (
	most  = api.MaxVolume
	entry = api.MaxEntry
)

// unit returns the row that has n in a column, and 0 elsewhere.
func unit(column, n int) api.Vec {
	var row api.Vec
	row[column] = n
	return row
}

// identity returns the six unit rows.
func identity() []api.Vec {
	var rows []api.Vec
	for c := range 6 {
		rows = append(rows, unit(c, 1))
	}
	return rows
}

// repeated returns a row n times.
func repeated(row api.Vec, n int) []api.Vec {
	return slices.Repeat([]api.Vec{row}, n)
}

// source returns a source of numbers that are the same in each run.
func source() *rand.Rand {
	return rand.New(rand.NewPCG(5, 2))
}

// number returns an integer that is at most top away from 0.
func number(r *rand.Rand, top int) int {
	return r.IntN(2*top+1) - top
}

// drawRow returns a row whose absolute values have a sum that is at most top; often some of its elements are 0.
func drawRow(r *rand.Rand, top int) api.Vec {
	var row api.Vec
	for _, c := range r.Perm(6) {
		if r.IntN(3) > 0 {
			row[c] = number(r, top)
			top -= max(row[c], -row[c])
		}
	}
	return row
}

// fullRow returns a row without a 0 whose absolute values have exactly the sum top, from 6 on.
func fullRow(r *rand.Rand, top int) api.Vec {
	var row api.Vec
	cuts := r.Perm(top - 1)[:5]
	slices.Sort(cuts)
	from := 0
	for c, cut := range append(cuts, top-1) {
		row[c] = cut + 1 - from
		from = cut + 1
		if r.IntN(2) == 0 {
			row[c] = -row[c]
		}
	}
	return row
}

// draw returns a valid matrix of so many rows, whose sums are at most top.
func draw(r *rand.Rand, n, top int) []api.Vec {
	rows := make([]api.Vec, n)
	for i := range rows {
		rows[i] = drawRow(r, top)
	}
	return rows
}

// bound returns the greatest sums that each of n rows may have.
func bound(n int) int {
	return []int{0, most, 31622, 1000, 177, 63, 31, 19, 13}[n]
}

// special returns matrices whose forms are at some bound.
func special() [][]api.Vec {
	var list [][]api.Vec
	for n := range 9 {
		list = append(list, repeated(api.Vec{}, n))
		for c := range 6 {
			list = append(list, repeated(unit(c, 1), n), repeated(unit(c, -1), n))
		}
	}
	for c := range 6 {
		for _, n := range []int{2, 3, entry, -entry, entry - 1} {
			list = append(list, []api.Vec{unit(c, n)}, []api.Vec{unit(c, n), unit(5-c, 1)}, []api.Vec{{}, unit(c, n), {}, unit(c, -1)})
		}
	}
	return append(list,
		[]api.Vec{{12, 19, 28}, {19, 30, 44}}, []api.Vec{{-4, 4, -1}, {8, -8, 2}}, []api.Vec{{-4, 4, -1}, {7, 0, -3}},
		[]api.Vec{{2}, {0, 6}}, []api.Vec{{4}, {6}}, []api.Vec{{6}, {10}, {15}}, []api.Vec{{6, 1}, {10, 1}, {15, 1}}, // pivots that share a factor, but no common one
		[]api.Vec{{1, -7}, {0, 5}}, []api.Vec{{1, 7}, {0, 5}}, []api.Vec{{1, 5}, {0, 5}}, []api.Vec{{1, 4}, {0, 5}}, []api.Vec{{1, -5}, {0, -5}}, []api.Vec{{-1, 1}, {0, 5}},
		[]api.Vec{{1, 9, -9, 40}, {0, 2, 7, -30}, {0, 0, 3, 100}, {0, 0, 0, 7}}, []api.Vec{{0, 2, -1, 50, 3, 3}, {0, 0, 0, 4, 9, 8}, {0, 0, 0, 0, 0, -5}},
		identity(), append(identity(), api.Vec{2, 3, 5, 7, 11, 13}, api.Vec{}),
		[]api.Vec{{1000}, {0, 1000}, {0, 0, 1000}}, []api.Vec{{0, 0, 0, 1000}, {0, 0, 0, 0, 1000}, {0, 0, 0, 0, 0, 1000}},
		[]api.Vec{{999, 1}, {0, 999, 1}, {0, 0, 999, 1}}, []api.Vec{{500, -500}, {500, 0, -500}, {500, 0, 0, -500}},
		[]api.Vec{{333333333, 333333334, 333333333}}, []api.Vec{{166666667, 166666666, -166666667, 166666667, -166666666, 166666667}}, []api.Vec{{499999999, 500000001}}, []api.Vec{{0, 0, 0, 0, 500000001, -499999999}},
		[]api.Vec{{31622, 0, 0, 0, 0, 0}, {1, 31621, 0, 0, 0, 0}}, []api.Vec{{1, 31621, 0, 0, 0, 0}, {31621, 0, 0, 0, 0, 1}}, []api.Vec{{31622}, {0, 0, 0, 0, 0, -31622}},
		[]api.Vec{{2, 29}, {0, 2, 29}, {0, 0, 2, 29}, {0, 0, 0, 2, 29}, {0, 0, 0, 0, 2, 29}, {29, 0, 0, 0, 0, 2}},
		[]api.Vec{{13}, {0, 13}, {0, 0, 13}, {0, 0, 0, 13}, {0, 0, 0, 0, 13}, {0, 0, 0, 0, 0, 13}, {12, 1}, {0, 0, 0, 0, 0, 7}},
	)
}

// matrices returns valid matrices: special ones, and others of each number of rows, with small and with great elements, of full rank and of lesser ones.
func matrices() [][]api.Vec {
	list := special()
	r := source()
	for n := 1; n <= 8; n++ {
		for range 60 {
			list = append(list, draw(r, n, min(bound(n), 3+r.IntN(10))), draw(r, n, bound(n)))
		}
		if n > 1 {
			for range 20 {
				rows := make([]api.Vec, n)
				for i := range rows {
					rows[i] = fullRow(r, bound(n))
				}
				list = append(list, rows)
			}
		}
		for range 40 {
			list = append(list, dependent(r, n))
		}
	}
	return slices.DeleteFunc(list, func(rows []api.Vec) bool { return !valid(rows) })
}

// dependent returns a matrix of n rows that are sums of multiples of two or three rows; it need not be valid.
func dependent(r *rand.Rand, n int) []api.Vec {
	base := draw(r, 2+r.IntN(2), 2+r.IntN(3))
	rows := make([]api.Vec, n)
	for i := range rows {
		for _, row := range base {
			rows[i] = plus(rows[i], row, number(r, 2))
		}
	}
	return rows
}

// plus returns a plus n times b.
func plus(a, b api.Vec, n int) api.Vec {
	for c, e := range b {
		a[c] += n * e
	}
	return a
}

// product returns the product of two rows.
func product(a, b api.Vec) int {
	sum := 0
	for c, e := range a {
		sum += e * b[c]
	}
	return sum
}

// valid reports what the document says of a matrix, by quotients alone.
func valid(rows []api.Vec) bool {
	left := most
	for _, row := range rows {
		sum := 0
		for _, e := range row {
			if e > entry || e < -entry {
				return false
			}
			sum += int(math.Abs(float64(e)))
		}
		if sum > 0 {
			left /= sum
		}
	}
	return left > 0 && len(rows) <= 8
}

// invalid returns what is no matrix: too many rows, elements too far from 0, or too great a volume.
func invalid() [][]api.Vec {
	list := [][]api.Vec{
		repeated(api.Vec{}, 9), repeated(api.Vec{}, 100), repeated(unit(0, 1), 9), append(identity(), identity()...), append(repeated(api.Vec{}, 8), unit(3, 2)),
		{{entry, 1}}, {{0, 0, 0, 0, 1, -entry}}, {{500000000, 500000000, 1}}, {unit(0, entry), unit(1, 2)}, {unit(0, 2), unit(0, -entry)}, {{}, unit(5, 2), {}, unit(5, entry), {}},
		{{1001}, {0, 999001}}, {{999000, 0, -1}, {1000, 1}}, {{31623}, {0, 31623}}, {{1000}, {1000}, {1000, 0, 0, 1}}, repeated(api.Vec{9, 1, 1, 1, 1, 1}, 8), // 1001 times 999001 is 1000000001
		repeated(api.Vec{4, 4, 4, 4, 4, 4}, 7), repeated(api.Vec{entry, entry, entry, entry, entry, entry}, 8), repeated(api.Vec{-entry, -entry, -entry, -entry, -entry, -entry}, 3),
		// The volumes of these are 2^64 and multiples of it, or above that by what would be valid.
		repeated(api.Vec{entry, entry, entry, entry, 294967296}, 2), repeated(api.Vec{65536}, 4), repeated(api.Vec{0, 256}, 8), {{65536}, {65536}, {65536}, {-65535, 1}, {1}},
		{{641}, {6700417}, {65535, 1, 1}, {65537}, {}}, // one less than 2^32 times one more: 2^64 - 1
	}
	for _, far := range []int{entry + 1, 2 * entry, 1 << 32, 1 << 62, math.MaxInt, math.MinInt, math.MinInt + 1} {
		for c := range 6 {
			list = append(list, []api.Vec{unit(c, far)}, []api.Vec{unit(c, -far)}, []api.Vec{{}, {1}, unit(c, far)}, []api.Vec{{far, far, far, far, far, far}})
		}
	}
	return list
}

// must returns a result that is to be there.
func must[T any](a T, e api.Errno) T {
	if e != api.OK {
		panic(e)
	}
	return a
}

// hermite, rank, divisors and kernel return what the package says of valid matrices.
func hermite(rows []api.Vec) []api.Vec { return must(matrix.Hermite(rows)) }
func rank(rows []api.Vec) int          { return must(matrix.Rank(rows)) }
func divisors(rows []api.Vec) []int    { return must(matrix.Divisors(rows)) }
func kernel(rows []api.Vec) []api.Vec  { return must(matrix.Kernel(rows)) }

// expect checks that a call has the rows, or integers, that are wanted.
func expect[T comparable](t *testing.T, call string, got []T, e api.Errno, want []T) {
	t.Helper()
	if !slices.Equal(got, want) || e != api.OK {
		t.Errorf("%s: %v, %v; want %v", call, got, e, want)
	}
}

// refused checks that a call has ErrArg, and nothing beside it.
func refused[T any](t *testing.T, call string, got []T, e api.Errno) {
	t.Helper()
	if len(got) != 0 || e != api.ErrArg {
		t.Errorf("%s: %v, %v; want the %v alone", call, got, e, api.ErrArg)
	}
}
