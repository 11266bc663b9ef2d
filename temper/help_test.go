package temper_test

import (
	"math"
	"math/big"
	"math/rand/v2"
	"slices"

	"schisma/api"
	"schisma/matrix"
)

// The greatest element of a temperament, exponent of an interval and exponent of a pitch.
const (
	most = api.MaxVal
	exp  = api.MaxExp
	part = api.MaxPart
)

// unit returns the row that has n in a column, and 0 elsewhere.
func unit(column, n int) api.Vec {
	var v api.Vec
	v[column] = n
	return v
}

// full returns the row of which all elements are n.
func full(n int) api.Vec {
	return api.Vec{n, n, n, n, n, n}
}

// of returns the map with some rows.
func of(rows ...api.Vec) api.Map {
	return api.Map{Rows: rows}
}

// twelve returns the temperament M12 of the chapter's examples.
func twelve() api.Map {
	return of(api.Vec{12, 19, 28, 34, 42, 44})
}

// meantone returns the temperament MT of the chapter's examples.
func meantone() api.Map {
	return of(api.Vec{1, 0, -4}, api.Vec{0, 1, 4})
}

// quarter returns the generators of MT of the chapter's examples.
func quarter() []api.Pitch {
	return []api.Pitch{{12}, {12, 0, 3}}
}

// source returns a source of numbers that are the same in each run.
func source() *rand.Rand {
	return rand.New(rand.NewPCG(7, 1))
}

// number returns an integer that is at most top away from 0.
func number(r *rand.Rand, top int) int {
	return r.IntN(2*top+1) - top
}

// drawRow returns a row whose elements are at most top away from 0, and some of them 0.
func drawRow(r *rand.Rand, top int) api.Vec {
	var row api.Vec
	for c := range row {
		if r.IntN(4) > 0 {
			row[c] = number(r, top)
		}
	}
	return row
}

// plus returns a plus n times b.
func plus(a, b api.Vec, n int) api.Vec {
	for c, e := range b {
		a[c] += n * e
	}
	return a
}

// product returns the product of two rows.
func product(a, b api.Vec) int {
	n := 0
	for c, e := range a {
		n += e * b[c]
	}
	return n
}

// drawSum returns a sum of multiples of rows by at most top.
func drawSum(r *rand.Rand, rows []api.Vec, top int) api.Vec {
	var v api.Vec
	for _, row := range rows {
		v = plus(v, row, number(r, top))
	}
	return v
}

// within reports whether no exponent of an interval or pitch is more than top away from 0.
func within(list [6]int, top int) bool {
	return slices.Max(list[:]) <= top && slices.Min(list[:]) >= -top
}

// special returns temperaments at some bound, and well-known ones.
func special() []api.Map {
	list := []api.Map{
		twelve(), meantone(), of(api.Vec{12, 19, 28}, api.Vec{19, 30, 44}), of(api.Vec{5, 8, 12}), of(api.Vec{31, 49, 72, 87, 107, 115}, api.Vec{22, 35, 51, 62, 76, 81}, api.Vec{12, 19, 28, 34, 42, 44}),
		of(full(most)), of(full(-most)), of(full(1)), of(full(1), api.Vec{1, 1, 1, 1, 1, -1}), of(full(most), api.Vec{most, most, most, most, most, most - 1}), of(full(most), unit(0, -most), unit(5, most)),
		of(unit(0, 1), unit(1, 1), unit(2, 1)), of(unit(5, 1), unit(4, 2), unit(3, -3)), of(unit(0, most), unit(1, most), unit(2, most)), of(unit(0, 2)), of(unit(3, -1)), of(api.Vec{2, 1}, api.Vec{0, 3}), of(api.Vec{2, 4, 6}, api.Vec{4, 6, 8}),
		of(api.Vec{400, 400, 200}, api.Vec{0, 400, 400, 200}, api.Vec{0, 0, -400, 400, 200}),                  // a volume of 10^9
		of(api.Vec{400, 400, 400, 50}, api.Vec{0, 0, 0, 0, 400, 400}, api.Vec{1, 400, 400, 198}),              // 1250 * 800 * 999
		of(api.Vec{400, -400, 400, -400, 400, 400}, api.Vec{0, 0, 400, 400, 200}, api.Vec{400, -16, 0, 0, 0}), // 2400 * 1000 * 416
	}
	for c := range 6 {
		for _, n := range []int{1, -2, most, -most} {
			list = append(list, of(unit(c, n)), of(unit(c, n), full(1)))
		}
	}
	return list
}

// temperaments returns special temperaments, and others of each number of rows.
func temperaments() []api.Map {
	list := special()
	r := source()
	for n := 1; n <= 3; n++ {
		for range 200 {
			top := []int{1, 3, 12, 100, most}[r.IntN(5)]
			if n == 3 {
				top = min(top, 166) // so that the volume is at most 996^3
			}
			var m api.Map
			for range n {
				m.Rows = append(m.Rows, drawRow(r, top))
			}
			list = append(list, m)
		}
	}
	return slices.DeleteFunc(list, func(m api.Map) bool { return !wantValid(m) })
}

// wantValid reports whether m is a temperament: its rows are independent if the determinant of their products with each other is not 0.
func wantValid(m api.Map) bool {
	n := len(m.Rows)
	volume := 1
	for i, row := range m.Rows {
		if i > 2 || !within(row, most) {
			return false
		}
		sum := 0
		for _, e := range row {
			sum += max(e, -e)
		}
		volume *= max(sum, 1)
	}
	products := [3][3]int{{1, 0, 0}, {0, 1, 0}, {0, 0, 1}}
	for i, a := range m.Rows {
		for j, b := range m.Rows {
			products[i][j] = product(a, b)
		}
	}
	return n > 0 && volume <= api.MaxVolume && determinant(products) != 0
}

// determinant returns that of three rows.
func determinant(m [3][3]int) int {
	n := 0
	for i := range 3 {
		j, k := (i+1)%3, (i+2)%3
		n += m[0][i] * (m[1][j]*m[2][k] - m[1][k]*m[2][j])
	}
	return n
}

// noMaps returns maps that are no temperaments.
func noMaps() []api.Map {
	list := []api.Map{
		{}, of([]api.Vec{}...), of(api.Vec{}), of(api.Vec{}, api.Vec{}, api.Vec{}), of(unit(0, 1), api.Vec{}), of(api.Vec{}, full(2), unit(0, 1)), of(full(1), full(1)), of(full(1), full(-2)), of(unit(0, 1), unit(1, 1), api.Vec{3, -5}), of(api.Vec{12, 19, 28}, api.Vec{19, 30, 44}, api.Vec{31, 49, 72}),
		of(unit(0, 1), unit(1, 1), unit(2, 1), unit(3, 1)), of(unit(0, 1), unit(1, 1), unit(2, 1), api.Vec{}), of(unit(0, 1), unit(1, 1), unit(2, 1), unit(2, 1)), of(make([]api.Vec, 4)...), of(make([]api.Vec, 9)...), of(slices.Repeat([]api.Vec{twelve().Rows[0]}, 8)...),
		of(full(most), full(most), full(most)), of(full(most), unit(0, 417), unit(1, 1)), of(api.Vec{400, 400, 201}, api.Vec{0, 400, 400, 200}, api.Vec{0, 0, -400, 400, 200}), of(full(-most), api.Vec{400, 17}, api.Vec{0, 400, 400, 200}), of(api.Vec{400, 400, 400, 400, 400, 399}, api.Vec{1, 2, 400}, api.Vec{300, 300, 300, 200, 0, 1}), // volumes above 10^9
	}
	for _, far := range []int{most + 1, -most - 1, 1000, api.MaxEntry, -api.MaxEntry, api.MaxEntry + 1, 1 << 32, 1 << 62, math.MaxInt, math.MinInt, math.MinInt + 1} {
		for c := range 6 {
			list = append(list, of(unit(c, far)), of(full(1), unit(c, far)))
		}
		list = append(list, of(full(far)), of(unit(0, 1), full(far), unit(1, 1)))
	}
	return list
}

// noIntervals returns rows that are no valid intervals.
func noIntervals() []api.Vec {
	var list []api.Vec
	for _, far := range []int{exp + 1, -exp - 1, part, api.MaxEntry + 1, 1 << 32, 1 << 60, 1 << 62, math.MaxInt, math.MinInt, math.MinInt + 1} {
		for c := range 6 {
			list = append(list, unit(c, far))
		}
		list = append(list, full(far), api.Vec{1, far, 2, -far, 3, exp})
	}
	return list
}

// noPitches returns what are no valid pitches.
func noPitches() []api.Pitch {
	var list []api.Pitch
	for _, far := range []int{part + 1, -part - 1, 100000, 1 << 32, 1 << 61, 1 << 62, math.MaxInt, math.MinInt, math.MinInt + 1} {
		for c := range 6 {
			list = append(list, api.Pitch(unit(c, far)))
		}
		list = append(list, api.Pitch(full(far)))
	}
	return list
}

// intervals returns valid intervals to ask for with a temperament: small ones and great ones, such as are tempered out, and their neighbours.
func intervals(r *rand.Rand, m api.Map) []api.Vec {
	list := []api.Vec{{}, full(exp), full(-exp), unit(r.IntN(6), exp), unit(r.IntN(6), -exp), unit(r.IntN(6), 1)}
	kernel := wantKernel(m.Rows)
	for _, top := range []int{1, 2, 5, exp} {
		v := drawSum(r, kernel, top)
		list = append(list, v, plus(v, unit(r.IntN(6), 1), 1), drawRow(r, top), kernel[r.IntN(len(kernel))])
	}
	for range 4 { // rows of a kernel may be far from 0, but it has small sums of multiples of two of them
		a, b := kernel[r.IntN(len(kernel))], kernel[r.IntN(len(kernel))]
		list = append(list, shortened(a, b))
	}
	return slices.DeleteFunc(list, func(v api.Vec) bool { return !within(v, exp) })
}

// shortened subtracts multiples of two rows from each other, as in Euclid's algorithm, while one of them gets shorter, and returns the shorter one that is not 0.
func shortened(a, b api.Vec) api.Vec {
	if product(a, a) > product(b, b) {
		a, b = b, a
	}
	for a != (api.Vec{}) {
		n := int(math.Round(float64(product(a, b)) / float64(product(a, a))))
		less := plus(b, a, -n)
		if n == 0 || product(less, less) >= product(a, a) {
			return a
		}
		a, b = less, a
	}
	return b
}

// drawGenerators returns n valid pitches: small ones, great ones, or such as are multiples of each other.
func drawGenerators(r *rand.Rand, n int) []api.Pitch {
	var gens []api.Pitch
	top := []int{1, 4, 12, part}[r.IntN(4)]
	for range n {
		gens = append(gens, api.Pitch(drawRow(r, top)))
	}
	if n > 1 && r.IntN(4) == 0 {
		gens[0] = api.Pitch(plus(api.Vec{}, api.Vec(gens[1]), -1))
	}
	return gens
}

// pureGenerators returns generators by which as many intervals as m has rows are pure, if some are found.
func pureGenerators(r *rand.Rand, m api.Map) ([]api.Pitch, []api.Vec, bool) {
	n := len(m.Rows)
	for range 20 {
		images := [3][3]int{{1, 0, 0}, {0, 1, 0}, {0, 0, 1}}
		var list []api.Vec
		for i := range n {
			list = append(list, drawRow(r, 1+r.IntN(3)))
			for j, row := range m.Rows {
				images[i][j] = product(list[i], row)
			}
		}
		if gens, ok := solved(images, list); ok {
			return gens, list, true
		}
	}
	return nil, nil, false
}

// solved returns the generators that lead to the intervals with these images, by Cramer's rule.
func solved(images [3][3]int, list []api.Vec) ([]api.Pitch, bool) {
	whole := determinant(images)
	gens := make([]api.Pitch, len(list))
	if whole == 0 {
		return nil, false
	}
	for c := range 6 {
		for j := range gens {
			m := images
			for i := range m {
				m[i][j] = 0
				if i < len(list) {
					m[i][j] = 12 * list[i][c]
				}
			}
			if determinant(m)%whole != 0 {
				return nil, false
			}
			gens[j][c] = determinant(m) / whole
		}
	}
	return gens, !slices.ContainsFunc(gens, func(p api.Pitch) bool { return !within(p, part) })
}

// wantTuned returns what Tune is to return for valid arguments.
func wantTuned(m api.Map, gens []api.Pitch, v api.Vec) (api.Pitch, api.Errno) {
	var p api.Pitch
	for c := range p {
		sum := new(big.Int)
		for i, row := range m.Rows {
			for k, e := range row {
				n := new(big.Int).Mul(big.NewInt(int64(e)), big.NewInt(int64(v[k])))
				sum.Add(sum, n.Mul(n, big.NewInt(int64(gens[i][c]))))
			}
		}
		if sum.CmpAbs(big.NewInt(part)) > 0 {
			return api.Pitch{}, api.ErrRange
		}
		p[c] = int(sum.Int64())
	}
	return p, api.OK
}

// A wide is a row whose elements may be of any size.
type wide []*big.Int

// subtract takes b from w, n times.
func (w wide) subtract(b wide, n *big.Int) {
	for i, e := range b {
		w[i].Sub(w[i], new(big.Int).Mul(n, e))
	}
}

// wantKernel returns the Hermite form of all rows whose product with each of rows is 0: the products of the six unit rows stand before these, and both are brought to a Hermite form together.
func wantKernel(rows []api.Vec) []api.Vec {
	var list []wide
	for c := range 6 {
		var w wide
		for _, row := range rows {
			w = append(w, big.NewInt(int64(row[c])))
		}
		for _, e := range unit(c, 1) {
			w = append(w, big.NewInt(int64(e)))
		}
		list = append(list, w)
	}
	done := 0
	var kernel []api.Vec
	for c := range len(rows) + 6 {
		if !eliminated(list[done:], c) {
			continue
		}
		for _, w := range list[:done] { // the elements above the pivot
			q, _ := new(big.Int).DivMod(w[c], list[done][c], new(big.Int))
			w.subtract(list[done], q)
		}
		done++
		if done == 6 {
			break
		}
	}
	for _, w := range list {
		if !slices.ContainsFunc(w[:len(rows)], func(n *big.Int) bool { return n.Sign() != 0 }) {
			var v api.Vec
			for c := range v {
				v[c] = int(w[len(rows)+c].Int64())
			}
			kernel = append(kernel, v)
		}
	}
	return kernel
}

// eliminated subtracts rows from each other until only the first one has an element in a column, which is above 0. It reports whether there is one.
func eliminated(list []wide, c int) bool {
	for {
		slices.SortStableFunc(list, func(a, b wide) int { // the least one that is not 0 first
			if a[c].Sign() == 0 || b[c].Sign() == 0 {
				return b[c].CmpAbs(new(big.Int)) - a[c].CmpAbs(new(big.Int))
			}
			return a[c].CmpAbs(b[c])
		})
		if list[0][c].Sign() < 0 {
			for _, e := range list[0] {
				e.Neg(e)
			}
		}
		if len(list) == 1 || list[1][c].Sign() == 0 {
			return list[0][c].Sign() != 0
		}
		for _, w := range list[1:] {
			w.subtract(list[0], new(big.Int).Quo(w[c], list[0][c]))
		}
	}
}

// wantFrom returns what From is to return for valid commas.
func wantFrom(commas []api.Vec) (api.Map, api.Errno) {
	m := of(wantKernel(commas)...)
	if n := len(m.Rows); n == 0 || n > 3 {
		return api.Map{}, api.ErrNone
	}
	if !wantValid(m) {
		return api.Map{}, api.ErrRange
	}
	return m, api.OK
}

// drawCommas returns a valid matrix of n rows that are valid intervals: of small exponents, of great ones, of lesser rank, or such as a temperament tempers out.
func drawCommas(r *rand.Rand, list []api.Map, n int) []api.Vec {
	kernel := wantKernel(list[r.IntN(len(list))].Rows)
	top := []int{1, 2, 4, exp}[r.IntN(4)]
	kind := r.IntN(3)
	for {
		var commas []api.Vec
		for range n {
			v := drawRow(r, top)
			switch {
			case kind == 1:
				v = shortened(kernel[r.IntN(len(kernel))], kernel[r.IntN(len(kernel))])
			case kind == 2 && len(commas) > 0:
				v = plus(commas[0], v, r.IntN(2))
			}
			if r.IntN(12) == 0 || !within(v, exp) {
				v = api.Vec{}
			}
			commas = append(commas, v)
		}
		if matrix.Valid(commas) {
			return commas
		}
		top, kind = max(top/2, 1), 0
	}
}
