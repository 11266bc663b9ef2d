package lattice_test

import (
	"math"
	"math/big"
	"math/rand/v2"
	"slices"

	"schisma/api"
	"schisma/matrix"
)

// entry is the greatest entry of a vector.
const entry = api.MaxEntry

// unit returns the vector that has n in a column, and 0 elsewhere.
func unit(column, n int) api.Vec {
	var v api.Vec
	v[column] = n
	return v
}

// identity returns the six unit rows.
func identity() []api.Vec {
	var rows []api.Vec
	for c := range 6 {
		rows = append(rows, unit(c, 1))
	}
	return rows
}

// zeros returns n rows that are 0.
func zeros(n int) []api.Vec {
	return make([]api.Vec, n)
}

// source returns a source of numbers that are the same in each run.
func source() *rand.Rand {
	return rand.New(rand.NewPCG(6, 1))
}

// number returns an integer that is at most top away from 0.
func number(r *rand.Rand, top int) int {
	return r.IntN(2*top+1) - top
}

// drawRow returns a row whose absolute values have a sum that is at most top; often some of its elements are 0.
func drawRow(r *rand.Rand, top int) api.Vec {
	var row api.Vec
	for _, c := range r.Perm(6) {
		if r.IntN(3) > 0 {
			row[c] = number(r, top)
			top -= max(row[c], -row[c])
		}
	}
	return row
}

// draw returns a valid matrix of n rows: with small elements, or with as great ones as it may have.
func draw(r *rand.Rand, n int) []api.Vec {
	top := []int{0, entry, 31622, 1000, 177, 63, 31, 19, 13}[n]
	if r.IntN(2) == 0 {
		top = min(top, 2+r.IntN(9))
	}
	rows := zeros(n)
	for i := range rows {
		rows[i] = drawRow(r, top)
	}
	return rows
}

// plus returns a plus n times b.
func plus(a, b api.Vec, n int) api.Vec {
	for c, e := range b {
		a[c] += n * e
	}
	return a
}

// sum returns the sum of rows, times their coefficients.
func sum(rows []api.Vec, coefficients []int) api.Vec {
	var v api.Vec
	for i, row := range rows {
		v = plus(v, row, coefficients[i])
	}
	return v
}

// drawSum returns a sum of multiples of rows by at most top, with their coefficients.
func drawSum(r *rand.Rand, rows []api.Vec, top int) (api.Vec, []int) {
	var list []int
	for range rows {
		list = append(list, number(r, top))
	}
	return sum(rows, list), list
}

// special returns matrices at some bound, of each rank, and with pivots that share factors.
func special() [][]api.Vec {
	list := [][]api.Vec{
		nil, {}, zeros(1), zeros(8), identity(), append(identity(), unit(2, 3), api.Vec{}),
		{{-4, 4, -1}, {7, 0, -3}}, {{12, 19, 28}, {19, 30, 44}}, {{-8, 8, -2}}, {{-4, 4, -1}}, {{4}, {6}}, {{6, 1}, {10, 1}, {15, 1}},
		{{2, 1}, {0, 3}}, {{4, 2}, {0, 6}}, {{2, 1, 1}, {0, 4, 2}, {0, 0, 6}}, {{1, 0, 2}, {0, 1, -2}}, {{1, 0, 3}, {0, 1, -3}}, {{0, 2}, {0, 0, 0, 3}, {0, 0, 0, 0, 0, 5}},
		{{500000000, 500000000}}, {{2, 999999998}}, {{0, 0, 1, 0, 0, -999999999}}, {{1, 999999999}}, {{-1, 999999999}}, {{333333333, 333333334, 333333333}}, {{166666667, 166666666, -166666667, 166666667, -166666666, 166666667}},
		{{31622}, {1, 31621}}, {{1, 31621}, {31621, 0, 0, 0, 0, 1}}, {{1000}, {0, 1000}, {0, 0, 1000}}, {{999, 1}, {0, 999, 1}, {0, 0, 999, 1}},
		{{2, 29}, {0, 2, 29}, {0, 0, 2, 29}, {0, 0, 0, 2, 29}, {0, 0, 0, 0, 2, 29}, {29, 0, 0, 0, 0, 2}}, {{2, 1}, {0, 2, 1}, {0, 0, 2, 1}, {0, 0, 0, 2, 1}, {0, 0, 0, 0, 2, 1}, {0, 0, 0, 0, 0, 2}},
	}
	for c := range 6 {
		for _, n := range []int{1, -2, 3, entry, -entry} {
			list = append(list, []api.Vec{unit(c, n)}, []api.Vec{unit(c, n), {}, unit(5-c, 1)})
		}
	}
	return list
}

// matrices returns valid matrices: special ones, and others of each number of rows.
func matrices() [][]api.Vec {
	list := special()
	r := source()
	for n := 1; n <= 8; n++ {
		for range 80 {
			list = append(list, draw(r, n))
		}
		for range 30 { // of lesser rank
			base := [][]api.Vec{draw(r, 1), draw(r, 2)}[r.IntN(2)]
			rows := zeros(n)
			for i := range rows {
				rows[i], _ = drawSum(r, base, 2)
			}
			list = append(list, rows)
		}
	}
	return slices.DeleteFunc(list, func(rows []api.Vec) bool { return !matrix.Valid(rows) })
}

// vectors returns valid vectors to ask for with rows: members and their neighbours, parts of members, small ones and great ones.
func vectors(r *rand.Rand, rows []api.Vec) []api.Vec {
	b := basis(rows)
	list := []api.Vec{{}, unit(r.IntN(6), 1), unit(r.IntN(6), entry), unit(r.IntN(6), -entry)}
	for _, top := range []int{1, 3, 100, 1000000, entry} {
		v, _ := drawSum(r, b, top)
		list = append(list, v, plus(v, unit(r.IntN(6), 1), 1), plus(v, unit(r.IntN(6), 1), -1), drawRow(r, top))
		var part, full api.Vec
		shared := 1 + r.IntN(6)
		for c := range part {
			part[c] = v[c] / shared
			full[c] = number(r, top)
		}
		list = append(list, part, full)
	}
	return slices.DeleteFunc(list, func(v api.Vec) bool { return !inside(v) })
}

// inside reports whether no entry of a vector is too far from 0.
func inside(v api.Vec) bool {
	for _, e := range v {
		if e > entry || e < -entry {
			return false
		}
	}
	return true
}

// basis returns the basis of the lattice of valid rows.
func basis(rows []api.Vec) []api.Vec {
	form, e := matrix.Hermite(rows)
	if e != api.OK {
		panic(e)
	}
	return form
}

// pivot returns the column of the first element of a row that is not 0.
func pivot(row api.Vec) int {
	return slices.IndexFunc(row[:], func(e int) bool { return e != 0 })
}

// noVectors returns what is no vector.
func noVectors() []api.Vec {
	var list []api.Vec
	for _, far := range []int{entry + 1, -entry - 1, 2 * entry, 1 << 32, 1 << 62, math.MaxInt, math.MinInt, math.MinInt + 1} {
		for c := range 6 {
			list = append(list, unit(c, far))
		}
		list = append(list, api.Vec{1, far, 2, -far, 3, entry}, api.Vec{far, far, far, far, far, far})
	}
	return list
}

// noMatrices returns what is no matrix.
func noMatrices() [][]api.Vec {
	list := [][]api.Vec{
		zeros(9), append(identity(), identity()...), {{entry, 1}}, {{0, 0, 0, 0, 1, -entry}}, {{500000000, 500000000, 1}}, {unit(0, entry), unit(1, 2)}, {{31623}, {0, 31623}}, {{1001}, {0, 999001}},
		slices.Repeat([]api.Vec{{9, 1, 1, 1, 1, 1}}, 8), slices.Repeat([]api.Vec{{65536}}, 4), slices.Repeat([]api.Vec{{entry, entry, entry, entry, 294967296}}, 2), // volumes of 2^64 and its square
	}
	for _, v := range noVectors() {
		list = append(list, []api.Vec{v}, []api.Vec{{}, v, {1}})
	}
	return list
}

// A wide is a vector whose entries may be of any size.
type wide [6]*big.Int

// widen returns a vector as a wide one.
func widen(v api.Vec) wide {
	var w wide
	for c, e := range v {
		w[c] = big.NewInt(int64(e))
	}
	return w
}

// plus returns w plus n times row.
func (w wide) plus(row api.Vec, n *big.Int) wide {
	var more wide
	for c, e := range row {
		more[c] = new(big.Int).Mul(n, big.NewInt(int64(e)))
		more[c].Add(more[c], w[c])
	}
	return more
}

// times returns n times w.
func (w wide) times(n *big.Int) wide {
	var more wide
	for c, e := range w {
		more[c] = new(big.Int).Mul(n, e)
	}
	return more
}

// narrow returns a wide vector as a vector, and whether that is valid.
func (w wide) narrow() (api.Vec, bool) {
	var v api.Vec
	for c, e := range w {
		if e.CmpAbs(big.NewInt(entry)) > 0 {
			return api.Vec{}, false
		}
		v[c] = int(e.Int64())
	}
	return v, true
}

// wantReduced returns the coefficients of the rows of the basis and the last remainder of v, or ErrRange.
func wantReduced(rows []api.Vec, v api.Vec) ([]int, api.Vec, api.Errno) {
	var list []int
	w := widen(v)
	for _, row := range basis(rows) {
		c := pivot(row)
		q, _ := new(big.Int).DivMod(w[c], big.NewInt(int64(row[c])), new(big.Int)) // rounds down, as the pivot is above 0
		w = w.plus(row, new(big.Int).Neg(q))
		if _, ok := w.narrow(); !ok {
			return nil, api.Vec{}, api.ErrRange
		}
		list = append(list, int(q.Int64()))
	}
	last, _ := w.narrow()
	return list, last, api.OK
}

// wantOrder returns what Order is to return for valid arguments.
func wantOrder(rows []api.Vec, v api.Vec) (int, api.Errno) {
	n := big.NewInt(1)
	w := widen(v)
	for _, row := range basis(rows) {
		c := pivot(row)
		p := big.NewInt(int64(row[c]))
		m := new(big.Int).GCD(nil, nil, p, new(big.Int).Abs(w[c]))
		m.Quo(p, m)
		n.Mul(n, m)
		w = w.times(m)
		_, before := w.narrow()
		w = w.plus(row, new(big.Int).Neg(new(big.Int).Quo(w[c], p)))
		if _, ok := w.narrow(); !ok || !before {
			return 0, api.ErrRange
		}
	}
	if last, _ := w.narrow(); last != (api.Vec{}) {
		return 0, api.OK
	}
	return int(n.Int64()), api.OK
}

// has reports whether the lattice of rows has n times v, however far the remainders are from 0.
func has(rows []api.Vec, v api.Vec, n int) bool {
	w := widen(v).times(big.NewInt(int64(n)))
	for _, row := range basis(rows) {
		c := pivot(row)
		q, rest := new(big.Int).QuoRem(w[c], big.NewInt(int64(row[c])), new(big.Int))
		if rest.Sign() != 0 {
			return false
		}
		w = w.plus(row, q.Neg(q))
	}
	last, ok := w.narrow()
	return ok && last == api.Vec{}
}

// wantIndex returns what Index is to return for valid rows.
func wantIndex(sub, sup []api.Vec) (int, api.Errno) {
	for _, row := range sub {
		_, rest, e := wantReduced(sup, row)
		if e != api.OK {
			return 0, e
		}
		if rest != (api.Vec{}) {
			return 0, api.ErrNone
		}
	}
	inner, outer := basis(sub), basis(sup)
	if len(inner) < len(outer) {
		return 0, api.OK
	}
	n := big.NewRat(1, 1)
	for i, row := range inner {
		n.Mul(n, big.NewRat(int64(row[pivot(row)]), int64(outer[i][pivot(outer[i])])))
	}
	return int(n.Num().Int64()), api.OK
}
