package temper_test

import (
	"math/rand/v2"
	"slices"
	"testing"

	"schisma/api"
	"schisma/lattice"
	"schisma/matrix"
	"schisma/pitch"
	"schisma/size"
	"schisma/temper"
)

// imageOf returns the image of a valid interval.
func imageOf(t *testing.T, m api.Map, v api.Vec) []int {
	t.Helper()
	list, e := temper.Image(m, v)
	if e != api.OK || len(list) != len(m.Rows) {
		t.Fatalf("Image of %v by %v: %v, %v", v, m, list, e)
	}
	return list
}

// TestP7_2Linear checks that the image of a product is the sum of the images, and that of an inverse the opposite one.
func TestP7_2Linear(t *testing.T) {
	r := source()
	count := 0
	for _, m := range temperaments() {
		list := intervals(r, m)
		for _, v := range list {
			first := imageOf(t, m, v)
			inverse := imageOf(t, m, plus(api.Vec{}, v, -1))
			w := list[r.IntN(len(list))]
			both := plus(v, w, 1)
			if !within(both, exp) {
				w, both = api.Vec{}, v
			}
			second, sum := imageOf(t, m, w), imageOf(t, m, both)
			for i := range sum {
				if sum[i] != first[i]+second[i] || inverse[i] != -first[i] {
					t.Errorf("%v: %v has %v, %v has %v, %v has %v; the inverse of the first one %v", m, v, first, w, second, both, sum, inverse)
				}
			}
			if w != (api.Vec{}) {
				count++
			}
		}
	}
	if count < 5000 {
		t.Errorf("only %d products", count)
	}
}

// kernelOf returns the kernel of a temperament.
func kernelOf(t *testing.T, m api.Map) []api.Vec {
	t.Helper()
	rows, e := temper.Kernel(m)
	if e != api.OK {
		t.Fatalf("Kernel of %v: %v", m, e)
	}
	return rows
}

// TestP7_3Kernel checks that intervals are tempered out exactly if they are in the lattice of the kernel.
func TestP7_3Kernel(t *testing.T) {
	r := source()
	var count [2]int
	for _, m := range temperaments() {
		kernel := kernelOf(t, m)
		for _, v := range intervals(r, m) {
			_, in, e := lattice.Member(kernel, v)
			if e != api.OK {
				continue
			}
			if none, e := temper.Tempers(m, v); none != in || e != api.OK {
				t.Errorf("Tempers of %v by %v: %v, %v; it is in %v: %v", v, m, none, e, kernel, in)
			}
			if v != (api.Vec{}) {
				count[boolean(in)]++
			}
		}
	}
	if slices.Min(count[:]) < 500 {
		t.Errorf("too few intervals: %v", count)
	}
}

// TestP7_3Same checks that temperaments with the same kernel temper out the same intervals, and others do not.
func TestP7_3Same(t *testing.T) {
	r := source()
	var count [2]int
	for _, m := range temperaments() {
		for range 5 {
			other := of(slices.Clone(m.Rows)...)
			i, j := r.IntN(len(m.Rows)), r.IntN(len(m.Rows))
			other.Rows[i] = plus(other.Rows[i], other.Rows[j], number(r, 2))
			other.Rows[i][r.IntN(6)] += r.IntN(2)
			if !temper.Valid(other) {
				continue
			}
			first, second := kernelOf(t, m), kernelOf(t, other)
			same := slices.Equal(first, second)
			count[boolean(same)]++
			outside := slices.ContainsFunc(first, func(v api.Vec) bool { return !annihilated(other.Rows, v) })
			if outside == same {
				t.Errorf("%v has %v, %v has %v", m, first, other, second)
			}
		}
	}
	if slices.Min(count[:]) < 500 {
		t.Errorf("too few pairs: %v", count)
	}
}

// annihilated reports whether the product of v with each of rows is 0.
func annihilated(rows []api.Vec, v api.Vec) bool {
	return !slices.ContainsFunc(rows, func(row api.Vec) bool { return product(row, v) != 0 })
}

// TestP7_4Rank checks the number of the rows of kernels, their products with the rows of the temperament, and that they are in Hermite form.
func TestP7_4Rank(t *testing.T) {
	for _, m := range temperaments() {
		kernel := kernelOf(t, m)
		good := len(kernel) == 6-len(m.Rows)
		last := -1
		for i, row := range kernel {
			c := slices.IndexFunc(row[:], func(n int) bool { return n != 0 })
			good = good && annihilated(m.Rows, row) && c > last && row[c] > 0
			for _, above := range kernel[:i] {
				good = good && c >= 0 && above[c] >= 0 && above[c] < row[c]
			}
			last = c
		}
		if !good {
			t.Errorf("Kernel of %v: %v", m, kernel)
		}
	}
}

// TestP7_5Commas checks that all commas are tempered out, and that multiples of members, divided again, are members: the lattice of the rows has all rows whose product with the commas is 0.
func TestP7_5Commas(t *testing.T) {
	r := source()
	list := temperaments()
	count := 0
	for range 4000 {
		commas := drawCommas(r, list, 1+r.IntN(8))
		m, e := temper.From(commas)
		if e != api.OK {
			continue
		}
		count++
		for _, v := range commas {
			if none, e := temper.Tempers(m, v); !none || e != api.OK {
				t.Errorf("%v, from %v, does not temper %v: %v", m, commas, v, e)
			}
		}
		divisors, e := matrix.Divisors(m.Rows)
		rank, f := matrix.Rank(commas)
		if e != api.OK || f != api.OK || len(m.Rows) != 6-rank || divisors[len(divisors)-1] != 1 {
			t.Errorf("%v, from %v of rank %d, has the divisors %v: %v, %v", m, commas, rank, divisors, e, f)
		}
	}
	if count < 500 {
		t.Errorf("only %d temperaments", count)
	}
}

// TestP7_5AllSmallRows checks which rows with small elements are in the lattice of the rows.
func TestP7_5AllSmallRows(t *testing.T) {
	r := source()
	inside := 0
	for range 60 {
		var commas []api.Vec
		for range 3 + r.IntN(3) {
			commas = append(commas, drawRow(r, 2))
		}
		m, e := temper.From(commas)
		if e != api.OK {
			continue
		}
		for n := range 15625 { // 5^6
			var v api.Vec
			for c := range v {
				v[c] = n%5 - 2
				n /= 5
			}
			want := annihilated(commas, v)
			if _, in, e := lattice.Member(m.Rows, v); in != want || e != api.OK {
				t.Fatalf("%v in %v, from %v: %v, %v", v, m, commas, in, e)
			}
			inside += boolean(want)
		}
	}
	if inside < 300 {
		t.Errorf("only %d rows", inside)
	}
}

// TestP7_5Kernels checks that the temperament made from the kernel of another one tempers out the same intervals.
func TestP7_5Kernels(t *testing.T) {
	r := source()
	count := 0
	for _, m := range temperaments() {
		other, e := temper.From(kernelOf(t, m))
		if e != api.OK {
			continue
		}
		count++
		if !slices.Equal(kernelOf(t, other), kernelOf(t, m)) {
			t.Errorf("%v and %v have different kernels", m, other)
		}
		for _, v := range intervals(r, m) {
			first, _ := temper.Tempers(m, v)
			second, e := temper.Tempers(other, v)
			if first != second || e != api.OK {
				t.Errorf("%v is tempered out by %v: %v, by %v: %v, %v", v, m, first, other, second, e)
			}
		}
	}
	if count < 100 {
		t.Errorf("only %d kernels", count)
	}
}

// A tuning is a temperament with generators.
type tuning struct {
	m    api.Map
	gens []api.Pitch
}

// tunings returns temperaments with generators, some by which intervals other than the unison are pure, and some that are near to these.
func tunings(r *rand.Rand) []tuning {
	var list []tuning
	for _, m := range temperaments() {
		list = append(list, tuning{m, drawGenerators(r, len(m.Rows))}, tuning{m, drawGenerators(r, len(m.Rows))})
		gens, _, ok := pureGenerators(r, m)
		if ok {
			list = append(list, tuning{m, gens})
		}
	}
	return append(list, tuning{meantone(), quarter()}, tuning{twelve(), []api.Pitch{{1}}}, tuning{of(api.Vec{12, 19, 28, 34}, unit(4, 1), unit(5, 1)), []api.Pitch{{1}, {0, 0, 0, 0, 12}, {0, 0, 0, 0, 0, 12}}})
}

// TestP7_6Products checks that products of intervals are tuned as the products of what these are tuned as.
func TestP7_6Products(t *testing.T) {
	r := source()
	count := 0
	for _, x := range tunings(r) {
		list := intervals(r, x.m)
		for _, v := range list {
			w := list[r.IntN(len(list))]
			both := plus(v, w, 1)
			if !within(both, exp) {
				continue
			}
			p, e := temper.Tune(x.m, x.gens, v)
			q, f := temper.Tune(x.m, x.gens, w)
			if e != api.OK || f != api.OK {
				continue
			}
			want, e := pitch.Mul(p, q)
			if got, f := temper.Tune(x.m, x.gens, both); got != want || f != e {
				t.Errorf("%v: %v is tuned as %v, %v as %v, %v as %v: %v, %v", x, v, p, w, q, both, got, e, f)
			}
			if v != (api.Vec{}) && w != (api.Vec{}) && e == api.OK {
				count++
			}
		}
	}
	if count < 2000 {
		t.Errorf("only %d products", count)
	}
}

// TestP7_6Images checks that intervals with the same image have the same tuned pitch, and that what is tempered out has the unison.
func TestP7_6Images(t *testing.T) {
	r := source()
	same, out := 0, 0
	for _, x := range tunings(r) {
		list := intervals(r, x.m)
		for _, v := range list {
			w := plus(v, list[r.IntN(len(list))], 1-2*r.IntN(2))
			if !within(w, exp) {
				continue
			}
			if slices.Equal(imageOf(t, x.m, v), imageOf(t, x.m, w)) {
				p, e := temper.Tune(x.m, x.gens, v)
				q, f := temper.Tune(x.m, x.gens, w)
				if p != q || e != f {
					t.Errorf("%v: %v is tuned as %v, %v, and %v as %v, %v", x, v, p, e, w, q, f)
				}
				if v != w && e == api.OK {
					same++
				}
			}
			if none, _ := temper.Tempers(x.m, w); none {
				if p, e := temper.Tune(x.m, x.gens, w); p != (api.Pitch{}) || e != api.OK {
					t.Errorf("%v: %v is tempered out, and tuned as %v, %v", x, w, p, e)
				}
				if w != (api.Vec{}) {
					out++
				}
			}
		}
	}
	if min(same, out) < 500 {
		t.Errorf("%d pairs, %d that are tempered out", same, out)
	}
}

// TestP7_6Generators checks that generators that are multiplied by pitches lead to the product of what both lead to.
func TestP7_6Generators(t *testing.T) {
	r := source()
	count := 0
	for _, x := range tunings(r) {
		factors := drawGenerators(r, len(x.gens))
		var gens []api.Pitch
		for i, p := range x.gens {
			q, e := pitch.Mul(p, factors[i])
			if e == api.OK {
				gens = append(gens, q)
			}
		}
		if len(gens) < len(x.gens) {
			continue
		}
		for _, v := range intervals(r, x.m) {
			p, e := temper.Tune(x.m, x.gens, v)
			q, f := temper.Tune(x.m, factors, v)
			if e != api.OK || f != api.OK {
				continue
			}
			want, e := pitch.Mul(p, q)
			if got, f := temper.Tune(x.m, gens, v); got != want || f != e {
				t.Errorf("%v: %v is tuned as %v, by %v as %v, by the products as %v, %v; want %v, %v", x, v, p, factors, q, got, f, want, e)
			}
			if v != (api.Vec{}) && e == api.OK {
				count++
			}
		}
	}
	if count < 1000 {
		t.Errorf("only %d intervals", count)
	}
}

// TestP7_7Purity checks that products and inverses of pure intervals are pure, and that only the unison is pure and tempered out.
func TestP7_7Purity(t *testing.T) {
	r := source()
	count, out := 0, 0
	for _, m := range temperaments() {
		gens, pures, ok := pureGenerators(r, m)
		if !ok {
			continue
		}
		for range 10 {
			v, w := drawSum(r, pures, 2), drawSum(r, pures, 2)
			list := []api.Vec{v, w, plus(v, w, 1), plus(api.Vec{}, v, -1), {}}
			for _, v := range list {
				if !within(v, exp) {
					continue
				}
				if pure, e := temper.Pure(m, gens, v); !pure || e != api.OK {
					t.Errorf("Pure of %v by %v, %v: %v, %v", v, m, gens, pure, e)
				}
				count++
			}
		}
		for _, v := range intervals(r, m) {
			pure, e := temper.Pure(m, gens, v)
			none, _ := temper.Tempers(m, v)
			if none && (pure != (v == api.Vec{}) || e != api.OK) {
				t.Errorf("Pure of %v by %v, %v: %v, %v; it is tempered out", v, m, gens, pure, e)
			}
			if none && v != (api.Vec{}) {
				out++
			}
		}
	}
	if min(count, out) < 500 {
		t.Errorf("%d are pure, %d are tempered out", count, out)
	}
}

// TestP7_7Unison checks that the unison is pure by any generators.
func TestP7_7Unison(t *testing.T) {
	for _, x := range tunings(source()) {
		if pure, e := temper.Pure(x.m, x.gens, api.Vec{}); !pure || e != api.OK {
			t.Errorf("%v: %v, %v", x, pure, e)
		}
	}
}

// TestP7_8ErrorsAddUp checks that the tuned pitch of a product is near the product with the sum of the bounds with which those of the factors are near them.
func TestP7_8ErrorsAddUp(t *testing.T) {
	r := source()
	count := 0
	tuned := append(slices.Repeat([]tuning{{meantone(), quarter()}, {twelve(), []api.Pitch{{1}}}}, 60), tunings(r)...)
	for _, x := range tuned {
		var list []api.Vec
		var bounds []int
		for _, v := range append(intervals(r, x.m), drawRow(r, 1), drawRow(r, 2)) {
			if n, ok := bound(x, v); ok {
				list, bounds = append(list, v), append(bounds, n)
			}
		}
		for i, v := range list {
			j := r.IntN(len(list))
			both := plus(v, list[j], 1)
			p, e := temper.Tune(x.m, x.gens, both)
			own, f := pitch.Of(both)
			if e != api.OK || f != api.OK || bounds[i]+bounds[j] > api.MaxStep {
				continue
			}
			if near, e := size.Near(p, own, bounds[i]+bounds[j]); near != 1 || e != api.OK {
				t.Errorf("%v: %v is near with %d, %v with %d, and %v: %d, %v", x, v, bounds[i], list[j], bounds[j], both, near, e)
			}
			if bounds[i] > 0 && bounds[j] > 0 {
				count++
			}
		}
	}
	if count < 500 {
		t.Errorf("only %d products", count)
	}
}

// bound returns the least bound, of those that are tried, with which the tuned pitch of v is near v.
func bound(x tuning, v api.Vec) (int, bool) {
	p, e := temper.Tune(x.m, x.gens, v)
	own, f := pitch.Of(v)
	if e != api.OK || f != api.OK {
		return 0, false
	}
	for n := 0; n <= api.MaxStep; n = n*5/4 + 1 {
		if near, e := size.Near(p, own, n); near == 1 && e == api.OK {
			return n, true
		}
	}
	return 0, false
}
