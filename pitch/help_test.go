package pitch_test

import (
	"math"
	"math/big"
	"math/rand/v2"
	"slices"
	"strings"
	"testing"

	"schisma/api"
	"schisma/pitch"
)

// part and whole are the greatest exponents of pitches and intervals.
const (
	part  = api.MaxPart
	whole = api.MaxExp
)

// primes are the primes in their order.
var primes = [6]int{2, 3, 5, 7, 11, 13}

// outside returns exponents of which one, or more, is beyond most.
func outside(most int) [][6]int {
	var list [][6]int
	for _, e := range []int{most + 1, -most - 1, 2 * most, 1 << 32, 1<<32 + 1, -1 << 32, math.MaxInt, math.MinInt, math.MinInt + 1} {
		for i := range 6 {
			var one [6]int
			one[i] = e
			list = append(list, one)
			rest := [6]int{most, -most, most, -most, most, -most}
			rest[i] = e
			list = append(list, rest)
		}
		list = append(list, [6]int{e, e, e, e, e, e}, [6]int{e, -e, e, -e, e, -e})
	}
	return list
}

// signs returns all exponents that are most or -most.
func signs(most int) [][6]int {
	var list [][6]int
	for bits := range 64 {
		var one [6]int
		for i := range one {
			one[i] = most - 2*most*(bits>>i&1)
		}
		list = append(list, one)
	}
	return list
}

// edges returns exponents at the bound most, next to it, next to 0, and at other simple places.
func edges(most int) [][6]int {
	list := append(signs(most), [6]int{})
	for _, e := range []int{1, 2, 5, 11, 12, 13, most / 2, most - 1, most} {
		for i := range 6 {
			var one, other [6]int
			one[i], other[i] = e, -e
			list = append(list, one, other)
			one[(i+1)%6], other[(i+1)%6] = -e, most
			list = append(list, one, other)
		}
	}
	return list
}

// source returns a source of numbers that are the same in each run.
func source() *rand.Rand {
	return rand.New(rand.NewPCG(32805, 32768))
}

// draw returns exponents that are at most most; often some of them are 0.
func draw(r *rand.Rand, most int) [6]int {
	var list [6]int
	for i := range list {
		if r.IntN(3) > 0 {
			list[i] = r.IntN(2*most+1) - most
		}
	}
	return list
}

// pitches returns the edges and some more pitches, small ones as well as great ones.
func pitches() []api.Pitch {
	var list []api.Pitch
	for _, p := range edges(part) {
		list = append(list, p)
	}
	for _, p := range close576() {
		list = append(list, p)
	}
	r := source()
	for _, most := range []int{1, 3, 24, 100, part} {
		for range 20 {
			list = append(list, draw(r, most))
		}
	}
	return list
}

// intervals returns the edges and some more intervals.
func intervals() []api.Vec {
	list := []api.Vec{{-4, 4, -1}, {-1, 1}, {-15, 8, 1}, {7, 0, -3}, {-19, 12}, {1, 2, -3, 1}, {-8, 26, 26, -37, -12, 14}}
	for _, v := range edges(whole) {
		list = append(list, v)
	}
	r := source()
	for _, most := range []int{1, 3, 12, whole} {
		for range 20 {
			list = append(list, draw(r, most))
		}
	}
	return list
}

// The following exponents have products just above 1: by less than 10^-8 octaves for those
// of intervals, and by less than 10^-13 octaves for the others, which sums of logarithms in
// floating point do not tell from 1. They were found by reducing the lattice of the exponents
// with their logarithms; TestCloseIsClose shows how close they are.

// close48 returns exponents within the bound of an interval.
func close48() [][6]int {
	return [][6]int{
		{-8, 26, 26, -37, -12, 14}, {-29, 7, 1, 13, 10, -15}, {-37, 33, 27, -24, -2, -1},
		{-36, -31, 0, -41, 29, 27}, {31, -38, 21, 46, -28, -14}, {23, -12, 47, 9, -40, 0},
	}
}

// close576 returns exponents within the bound of a pitch.
func close576() [][6]int {
	return [][6]int{
		{-178, -449, 439, 153, 140, -282}, {397, -513, -204, -440, 426, 176}, {-132, -296, -475, 468, 208, -89},
		{-242, 101, 457, -501, 131, -7}, {-196, 254, -457, -186, 199, 186}, {-374, -195, -18, -33, 339, -96},
	}
}

// close1152 returns exponents that are differences of those of two pitches.
func close1152() [][6]int {
	return [][6]int{
		{351, -666, 710, -755, 358, -17}, {-205, 899, -454, -1149, 938, -50}, {68, 846, 493, -1122, -217, 364},
		{-529, 217, -271, 908, -218, -265}, {173, -1115, 1149, -602, 498, -299},
	}
}

// halves returns two pitches that are list apart, the first one above the second one.
func halves(list [6]int) (api.Pitch, api.Pitch) {
	var a, b api.Pitch
	for i, e := range list {
		b[i] = -(e / 2)
		a[i] = e + b[i]
	}
	return a, b
}

// minus returns the exponents a less those of b.
func minus(a, b [6]int) [6]int {
	for i, e := range b {
		a[i] -= e
	}
	return a
}

// negative returns the opposite exponents.
func negative(a [6]int) [6]int {
	return minus([6]int{}, a)
}

// parts returns the products of the primes to the exponents that are above 0, and to
// those that are below 0, as the library has them.
func parts(list [6]int) (*big.Int, *big.Int) {
	above, below := big.NewInt(1), big.NewInt(1)
	for i, e := range list {
		power := new(big.Int).Exp(big.NewInt(int64(primes[i])), big.NewInt(int64(max(e, -e))), nil)
		if e > 0 {
			above.Mul(above, power)
		} else {
			below.Mul(below, power)
		}
	}
	return above, below
}

// order returns how the number of a compares with that of b, by the powers of the library.
func order(a, b api.Pitch) int {
	above, below := parts(minus(a, b))
	return above.Cmp(below)
}

// toBig returns a as the library has it.
func toBig(a api.Nat) *big.Int {
	b := make([]byte, 0, 4*len(a))
	for _, x := range slices.Backward(a) {
		b = append(b, byte(x>>24), byte(x>>16), byte(x>>8), byte(x))
	}
	return new(big.Int).SetBytes(b)
}

// written returns the text of p, by the library's rational numbers.
func written(p api.Pitch) string {
	var terms []string
	for i, e := range p {
		prime := big.NewInt(int64(primes[i])).String()
		switch e {
		case 0:
		case 12:
			terms = append(terms, prime)
		default:
			terms = append(terms, prime+"^"+big.NewRat(int64(e), 12).RatString())
		}
	}
	if len(terms) == 0 {
		return "1"
	}
	return strings.Join(terms, "*")
}

// valid reports whether all exponents are at most most.
func valid(list [6]int, most int) bool {
	for _, e := range list {
		if e > most || e < -most {
			return false
		}
	}
	return true
}

// expect checks that a call has the result want.
func expect[T comparable](t *testing.T, call string, got T, e api.Errno, want T) {
	t.Helper()
	if got != want || e != api.OK {
		t.Errorf("%.80s: %v, %v; want %v", call, got, e, want)
	}
}

// refused checks that a call has the error want, and nothing beside it.
func refused[T comparable](t *testing.T, call string, got T, e, want api.Errno) {
	t.Helper()
	var zero T
	if got != zero || e != want {
		t.Errorf("%.80s: %v, %v; want the %v alone", call, got, e, want)
	}
}

// answers checks that a call with a pitch as its result has a valid one, or the error want if that is not valid.
func answers(t *testing.T, call string, got api.Pitch, e api.Errno, want api.Pitch) {
	t.Helper()
	if valid(want, part) {
		expect(t, call, got, e, want)
	} else {
		refused(t, call, got, e, api.ErrRange)
	}
}

// must returns a result that is to be there.
func must[T any](a T, e api.Errno) T {
	if e != api.OK {
		panic(e)
	}
	return a
}

// compare returns what Cmp says of valid pitches.
func compare(a, b api.Pitch) int {
	return must(pitch.Cmp(a, b))
}

// text returns the text of a valid pitch.
func text(p api.Pitch) string {
	return must(pitch.Text(p))
}
