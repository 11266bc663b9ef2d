package rational_test

import (
	"cmp"
	"math"
	"math/big"
	"math/rand/v2"
	"slices"
	"testing"

	"schisma/api"
	"schisma/rational"
)

// most is the greatest numerator and denominator.
const most = api.MaxRat

// of returns n / d as it stands.
func of(n, d int) api.Rat {
	return api.Rat{N: n, D: d}
}

// all returns the pairs of list as they stand.
func all(list [][2]int) []api.Rat {
	var result []api.Rat
	for _, x := range list {
		result = append(result, of(x[0], x[1]))
	}
	return result
}

// invalid returns pairs of integers that are not numbers.
func invalid() []api.Rat {
	list := all([][2]int{
		{0, 0}, {1, 0}, {-1, 0}, {0, 2}, {0, 3}, {0, most}, {0, -1},
		{1, -1}, {-1, -1}, {3, -2}, {-3, -2}, {1, -most},
		{2, 2}, {2, 4}, {-2, 4}, {6, 9}, {-6, 3}, {most, most}, {-most, most}, {most, 5}, {most - 2, 2},
		{most + 1, 1}, {-most - 1, 1}, {1, most + 1}, {-1, most + 1}, {most + 1, most + 2}, {most + 1, most},
		{1 << 32, 1}, {1, 1 << 32}, {1<<32 + 1, 1<<32 + 2}, {1 << 62, 1}, {1, 1 << 62},
	})
	for _, extreme := range []int{math.MinInt, math.MinInt + 1, math.MaxInt} {
		list = append(list, of(extreme, 1), of(1, extreme), of(extreme, extreme), of(extreme, 0), of(0, extreme))
	}
	return list
}

// edges returns numbers at the bounds, next to them, and simple ones.
func edges() []api.Rat {
	above := all([][2]int{
		{1, 1}, {2, 1}, {3, 1}, {10, 1}, {1, 2}, {1, 3}, {2, 3}, {3, 2}, {3, 4}, {5, 2}, {7, 12}, {81, 80}, {128, 125},
		{584963, 1000000}, {1, most}, {1, most - 1}, {most, 1}, {most - 1, 1}, {most, most - 1}, {most - 1, most},
		{most, 3}, {most, 7}, {3, most}, {most - 1, most - 2}, {most / 2, 1}, {most/2 + 1, 1}, {999999937, most},
		{267914296, 433494437}, {433494437, 267914296}, {31622, 31623}, {most - 1, 31622}, {31621, most},
	})
	list := []api.Rat{of(0, 1)}
	for _, a := range above {
		list = append(list, a, of(-a.N, a.D))
	}
	return list
}

// source returns a source of numbers that are the same in each run.
func source() *rand.Rand {
	return rand.New(rand.NewPCG(128, 125))
}

// draw returns a number whose numerator and denominator are at most top.
func draw(r *rand.Rand, top int) api.Rat {
	return must(rational.Make(r.IntN(2*top+1)-top, r.IntN(top)+1))
}

// numbers returns the edges and a few more numbers of several sizes.
func numbers() []api.Rat {
	r := source()
	list := edges()
	for _, top := range []int{5, 40, 1000, 31623, most} {
		for range 12 {
			list = append(list, draw(r, top))
		}
	}
	return list
}

// lowest reports whether no integer above 1 divides both n and d, which is above 0.
func lowest(n, d int) bool {
	return new(big.Int).GCD(nil, nil, big.NewInt(int64(max(n, -n))), big.NewInt(int64(d))).Int64() == 1
}

// small returns all numbers whose numerator and denominator are at most top.
func small(top int) []api.Rat {
	var list []api.Rat
	for d := 1; d <= top; d++ {
		for n := -top; n <= top; n++ {
			if lowest(n, d) {
				list = append(list, of(n, d))
			}
		}
	}
	return list
}

// triples calls each for three numbers, again and again; some of their sums and products are no numbers.
func triples(each func(a, b, c api.Rat)) {
	r := source()
	for _, top := range []int{6, 30, 200, 900, 31622, most} {
		for range 1500 {
			each(draw(r, top), draw(r, top), draw(r, top))
		}
	}
	list := edges()
	for _, a := range list {
		for _, b := range list {
			for _, c := range list[:20] {
				each(a, b, c)
			}
		}
	}
}

// toBig returns a as the library has it.
func toBig(a api.Rat) *big.Rat {
	return big.NewRat(int64(a.N), int64(a.D))
}

// fromBig returns the number with the value b, and whether there is one.
func fromBig(b *big.Rat) (api.Rat, bool) {
	top := big.NewInt(most)
	if b.Num().CmpAbs(top) > 0 || b.Denom().Cmp(top) > 0 {
		return api.Rat{}, false
	}
	return of(int(b.Num().Int64()), int(b.Denom().Int64())), true
}

// expect checks a result against the value b, or against ErrRange if no number has it.
func expect(t *testing.T, call string, got api.Rat, e api.Errno, b *big.Rat) {
	t.Helper()
	want, ok := fromBig(b)
	if !ok {
		refused(t, call, got, e, api.ErrRange)
		return
	}
	if got != want || e != api.OK {
		t.Errorf("%s: %v, %v; want %v", call, got, e, want)
	}
}

// refused checks that a call has the error want, and nothing beside it.
func refused[T comparable](t *testing.T, call string, got T, e, want api.Errno) {
	t.Helper()
	var zero T
	if got != zero || e != want {
		t.Errorf("%.60s: %v, %v; want the %v alone", call, got, e, want)
	}
}

// must returns a result that is to be there.
func must[T any](a T, e api.Errno) T {
	if e != api.OK {
		panic(e)
	}
	return a
}

// text returns the text of a, which is to be a number.
func text(a api.Rat) string {
	return must(rational.Text(a))
}

// sorted returns the numbers of list in their order, each of them once.
func sorted(list []api.Rat) []api.Rat {
	order := func(a, b api.Rat) int {
		return cmp.Compare(a.N*b.D, b.N*a.D)
	}
	list = slices.SortedFunc(slices.Values(list), order)
	return slices.Compact(list)
}
