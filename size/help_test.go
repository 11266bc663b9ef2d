package size_test

import (
	"math"
	"math/rand/v2"
	"testing"

	"schisma/api"
	"schisma/pitch"
	"schisma/size"
)

// most and part are the greatest end of a size and the greatest exponent of a pitch.
const (
	most = api.MaxSize
	part = api.MaxPart
)

// of returns the size from low to high.
func of(low, high int) api.Size {
	return api.Size{Lo: low, Hi: high}
}

// grains returns numbers at the bounds, next to them, next to 0, and at other places, in rising order.
func grains() []int {
	return []int{-most, -most + 1, -most / 2, -7, -3, -1, 0, 1, 2, 3, 9, most/2 - 1, most / 2, most - 1, most}
}

// sizes returns the sizes that have their ends in grains, and some more.
func sizes() []api.Size {
	var list []api.Size
	ends := grains()
	for i, low := range ends {
		for _, high := range ends[i:] {
			list = append(list, of(low, high))
		}
	}
	r := source()
	for range 20 {
		list = append(list, draw(r, 20), draw(r, most))
	}
	return list
}

// invalid returns what is no size.
func invalid() []api.Size {
	list := []api.Size{of(1, 0), of(0, -1), of(most, most-1), of(-most+1, -most), of(most, -most), of(1<<32, 1)}
	for _, far := range []int{most + 1, 2 * most, math.MaxInt - 1, math.MaxInt} {
		list = append(list, of(far, far), of(-far, -far), of(-far, far), of(far, -far), of(0, far), of(-far, 0), of(far, 0), of(0, -far), of(most, far), of(-far, -most))
	}
	least := math.MinInt
	return append(list, of(least, least), of(least, 0), of(0, least), of(least, math.MaxInt), of(math.MaxInt, least), of(least, -most), of(most, least))
}

// source returns a source of numbers that are the same in each run.
func source() *rand.Rand {
	return rand.New(rand.NewPCG(3, 2))
}

// number returns an integer that is at most top away from 0.
func number(r *rand.Rand, top int) int {
	return r.IntN(2*top+1) - top
}

// draw returns a size whose ends are at most top away from 0.
func draw(r *rand.Rand, top int) api.Size {
	a, b := number(r, top), number(r, top)
	return of(min(a, b), max(a, b))
}

// exponents returns a pitch whose exponents are at most top; often some of them are 0.
func exponents(r *rand.Rand, top int) api.Pitch {
	var p api.Pitch
	for i := range p {
		if r.IntN(3) > 0 {
			p[i] = number(r, top)
		}
	}
	return p
}

// pitches returns the pitches with all signs at the bound, each exponent alone, and some more.
func pitches() []api.Pitch {
	list := []api.Pitch{{}, {-12, 12}, {-24, 0, 12}, {-48, 48, -12}, {0, 0, 3}}
	for signs := range 64 {
		var p api.Pitch
		for i := range p {
			p[i] = part - 2*part*(signs>>i&1)
		}
		list = append(list, p)
	}
	for i := range 6 {
		for _, e := range []int{1, 11, 12, part - 1, part} {
			var p, q api.Pitch
			p[i], q[i] = e, -e
			list = append(list, p, q)
		}
	}
	r := source()
	for _, top := range []int{1, 3, 24, 100, part} {
		for range 15 {
			list = append(list, exponents(r, top))
		}
	}
	for _, x := range close1152() {
		a, b := halves(x)
		list = append(list, a, b)
	}
	return list
}

// noPitches returns exponents that are not those of a pitch.
func noPitches() []api.Pitch {
	var list []api.Pitch
	for _, e := range []int{part + 1, -part - 1, 2 * part, 1 << 32, -1 << 32, math.MaxInt, math.MinInt} {
		for i := range 6 {
			p, q := api.Pitch{}, api.Pitch{part, -part, part, -part, part, -part}
			p[i], q[i] = e, e
			list = append(list, p, q)
		}
		list = append(list, api.Pitch{e, e, e, e, e, e})
	}
	return list
}

// close1152 returns differences of the exponents of two pitches; the pitches are less than 10^-13 octaves apart.
func close1152() []api.Pitch {
	return []api.Pitch{
		{-178, -449, 439, 153, 140, -282}, {397, -513, -204, -440, 426, 176}, {-132, -296, -475, 468, 208, -89},
		{351, -666, 710, -755, 358, -17}, {-205, 899, -454, -1149, 938, -50}, {173, -1115, 1149, -602, 498, -299},
	}
}

// halves returns two pitches whose exponents differ by list.
func halves(list api.Pitch) (api.Pitch, api.Pitch) {
	var a, b api.Pitch
	for i, e := range list {
		b[i] = -(e / 2)
		a[i] = e + b[i]
	}
	return a, b
}

// minus returns the exponents of a less those of b.
func minus(a, b api.Pitch) api.Pitch {
	for i, e := range b {
		a[i] -= e
	}
	return a
}

// enclosure returns the size of exponents. Its logarithms are those of the library, rounded to both sides: they are far more precise than the units.
func enclosure(list api.Pitch) api.Size {
	var a api.Size
	for i, prime := range []float64{2, 3, 5, 7, 11, 13} {
		units := math.Log2(prime) * 1e9
		below, above := list[i]*int(math.Floor(units)), list[i]*int(math.Ceil(units))
		a.Lo += min(below, above)
		a.Hi += max(below, above)
	}
	return a
}

// inside reports whether all numbers of a are in b.
func inside(a, b api.Size) bool {
	return b.Lo <= a.Lo && a.Hi <= b.Hi
}

// opposite returns the numbers whose opposites are in a.
func opposite(a api.Size) api.Size {
	return of(-a.Hi, -a.Lo)
}

// expect checks that a call has the result want.
func expect[T comparable](t *testing.T, call string, got T, e api.Errno, want T) {
	t.Helper()
	if got != want || e != api.OK {
		t.Errorf("%s: %v, %v; want %v", call, got, e, want)
	}
}

// refused checks that a call has the error want, and nothing beside it.
func refused[T comparable](t *testing.T, call string, got T, e, want api.Errno) {
	t.Helper()
	var zero T
	if got != zero || e != want {
		t.Errorf("%s: %v, %v; want the %v alone", call, got, e, want)
	}
}

// answers checks that a call has the result want, or ErrRange if that is not a size.
func answers(t *testing.T, call string, got api.Size, e api.Errno, want api.Size) {
	t.Helper()
	if -most <= want.Lo && want.Hi <= most {
		expect(t, call, got, e, want)
	} else {
		refused(t, call, got, e, api.ErrRange)
	}
}

// must returns a result that is to be there.
func must[T any](a T, e api.Errno) T {
	if e != api.OK {
		panic(e)
	}
	return a
}

// measured returns the size of a valid pitch.
func measured(p api.Pitch) api.Size {
	return must(size.Of(p))
}

// compared returns what Cmp says of valid sizes.
func compared(a, b api.Size) int {
	return must(size.Cmp(a, b))
}

// near returns what Near says of valid pitches and a valid bound.
func near(a, b api.Pitch, bound int) int {
	return must(size.Near(a, b, bound))
}

// tempered returns p, higher by so many semitones, and whether this is a valid pitch.
func tempered(p api.Pitch, semitones int) (api.Pitch, bool) {
	p[0] += semitones
	return p, pitch.Valid(p)
}
