package scale_test

import (
	"math"
	"math/big"
	"math/rand/v2"
	"slices"
	"testing"

	"schisma/api"
	"schisma/scale"
)

// The greatest exponent of a pitch, and the greatest number of pitches of a scale.
const (
	part = api.MaxPart
	most = api.MaxScale
)

// primes are the primes in their order.
var primes = [6]int64{2, 3, 5, 7, 11, 13}

// unison and octave are the pitches between which scales lie.
var unison, octave = api.Pitch{}, api.Pitch{12}

// source returns a source of numbers that are the same in each run.
func source() *rand.Rand {
	return rand.New(rand.NewPCG(9, 3))
}

// number returns an integer that is at most top away from 0.
func number(r *rand.Rand, top int) int {
	return r.IntN(2*top+1) - top
}

// draw returns a pitch whose exponents are at most top away from 0, and some of them 0.
func draw(r *rand.Rand, top int) api.Pitch {
	var p api.Pitch
	for c := range p {
		if r.IntN(3) > 0 {
			p[c] = number(r, top)
		}
	}
	return p
}

// unit returns the pitch that has n in a column, and 0 elsewhere.
func unit(column, n int) api.Pitch {
	var p api.Pitch
	p[column] = n
	return p
}

// full returns the pitch of which all exponents are n.
func full(n int) api.Pitch {
	return api.Pitch{n, n, n, n, n, n}
}

// times returns a times b to the power n, whether it is valid or not.
func times(a, b api.Pitch, n int) api.Pitch {
	for c, e := range b {
		a[c] += n * e
	}
	return a
}

// over returns the quotient of a and b, whether it is valid or not.
func over(a, b api.Pitch) api.Pitch {
	return times(a, b, -1)
}

// fits reports whether p is a valid pitch.
func fits(p api.Pitch) bool {
	return slices.Max(p[:]) <= part && slices.Min(p[:]) >= -part
}

// allFit reports whether all of list are valid pitches.
func allFit(list []api.Pitch) bool {
	return !slices.ContainsFunc(list, func(p api.Pitch) bool { return !fits(p) })
}

// parts returns the products of the primes to the exponents that are above 0, and to those that are below 0: the numerator and the denominator of the number of p, to the power of twelve.
func parts(p api.Pitch) (*big.Int, *big.Int) {
	above, below := big.NewInt(1), big.NewInt(1)
	for c, e := range p {
		power := new(big.Int).Exp(big.NewInt(primes[c]), big.NewInt(int64(max(e, -e))), nil)
		if e > 0 {
			above.Mul(above, power)
		} else {
			below.Mul(below, power)
		}
	}
	return above, below
}

// sign returns -1, 0 or 1 if p is lower than the unison, equal to it or higher; p need not be valid.
func sign(p api.Pitch) int {
	above, below := parts(p)
	return above.Cmp(below)
}

// order returns -1, 0 or 1 if a is lower than b, equal to it or higher; they need not be valid.
func order(a, b api.Pitch) int {
	return sign(over(a, b))
}

// closePitches returns pitches just above the unison: by less than 10^-13 octaves, which sums of logarithms in floating point do not tell from 0. TestCloseIsClose shows how close they are.
func closePitches() []api.Pitch {
	return []api.Pitch{
		{-178, -449, 439, 153, 140, -282}, {397, -513, -204, -440, 426, 176}, {-132, -296, -475, 468, 208, -89},
		{-242, 101, 457, -501, 131, -7}, {-196, 254, -457, -186, 199, 186}, {-374, -195, -18, -33, 339, -96},
	}
}

func TestCloseIsClose(t *testing.T) {
	for _, p := range closePitches() {
		above, below := parts(p)
		apart := new(big.Int).Sub(above, below)
		if apart.Sign() <= 0 || apart.Mul(apart, big.NewInt(10_000_000_000_000)).Cmp(below) > 0 || !fits(p) {
			t.Errorf("%v is not closely above the unison", p)
		}
	}
}

// noPitches returns what are no valid pitches.
func noPitches() []api.Pitch {
	var list []api.Pitch
	for _, far := range []int{part + 1, -part - 1, 2 * part, 100000, 1 << 32, 1<<32 + 12, 1 << 60, 1 << 62, math.MaxInt, math.MinInt, math.MinInt + 1} {
		for c := range 6 {
			list = append(list, unit(c, far), times(closePitches()[c], unit(c, 1), far-closePitches()[c][c]))
		}
		list = append(list, full(far))
	}
	return append(list, api.Pitch{588, -370}, api.Pitch{-588, 372}) // these two are within the octave
}

// rising returns list in its order, the lowest pitch first, and each pitch once.
func rising(list []api.Pitch) []api.Pitch {
	list = slices.Clone(list)
	slices.SortFunc(list, order)
	return slices.Compact(list)
}

// drawInside returns a valid pitch within the octave whose exponents, but that of 2, are at most top away from 0.
func drawInside(r *rand.Rand, top int) api.Pitch {
	for {
		if q, _, e := wantOctave(draw(r, top)); e == api.OK {
			return q
		}
	}
}

// drawScale returns a valid scale of at most n pitches whose exponents, but those of 2, are at most top away from 0.
func drawScale(r *rand.Rand, n, top int) []api.Pitch {
	s := []api.Pitch{unison}
	for range n - 1 {
		p := drawInside(r, top)
		if r.IntN(8) == 0 { // one that is next to another one
			p = times(s[r.IntN(len(s))], closePitches()[r.IntN(6)], 1-2*r.IntN(2))
		}
		if fits(p) && order(p, unison) >= 0 && order(p, octave) < 0 {
			s = append(s, p)
		}
	}
	return rising(s)
}

// equal returns the scale of n equal steps, which are a twelfth of the octave or a multiple of it.
func equal(n int) []api.Pitch {
	var s []api.Pitch
	for i := range n {
		s = append(s, api.Pitch{i * 12 / n})
	}
	return s
}

// long returns n pitches that are a valid scale if n is at most 64: the first powers of a twelfth of 3 within the octave.
func long(n int) []api.Pitch {
	var s []api.Pitch
	for i := range n {
		q, _, _ := wantOctave(api.Pitch{0, i})
		s = append(s, q)
	}
	return rising(s)
}

// three returns the scale of the chapter's examples.
func three() []api.Pitch {
	return []api.Pitch{{}, {-36, 24}, {-12, 12}}
}

// special returns scales that are well known, at some bound, or have pitches that are close to each other.
func special() [][]api.Pitch {
	list := [][]api.Pitch{
		{unison}, three(), equal(12), equal(2), equal(3), equal(4), equal(6), long(2), long(63), long(64),
		{{}, {-36, 24}, {-24, 0, 12}, {24, -12}, {-12, 12}, {0, -12, 12}, {-36, 12, 12}}, // just intonation
		{{}, {11}}, {{}, {1}},
		{{}, {576, -363}}, {{}, {576, -363}, {576, -360}}, {{}, {-290, 183}, {290, -182}}, {{}, {-576, 364}}, {{}, {-564, 356}}, {{}, {-565, 357}}, {{}, {0, 0, 0, 576, -467}}, {{}, {2, 0, -494, 0, 0, 310}},
		{{}, {-242, 101, 457, -501, 131, -7}, {6}, {-236, 101, 457, -501, 131, -7}},
		{{}, {254, -101, -457, 501, -131, 7}}, {{}, {6}, {254, -101, -457, 501, -131, 7}},
	}
	for _, p := range closePitches() {
		list = append(list, []api.Pitch{{}, p}, []api.Pitch{{}, over(octave, p)}, []api.Pitch{{}, p, over(octave, p)}, []api.Pitch{{}, over(api.Pitch{6}, p), {6}, times(api.Pitch{6}, p, 1)})
	}
	return list
}

// scales returns special scales, and others of different lengths.
func scales() [][]api.Pitch {
	list := special()
	r := source()
	for _, top := range []int{1, 4, 12, 40, 120, 300, part} {
		for _, n := range []int{2, 3, 4, 5, 7, 12, 20} {
			for range 3 {
				list = append(list, drawScale(r, n, top))
			}
		}
		list = append(list, drawScale(r, most, top))
	}
	for range 60 {
		if s, e := wantChain(draw(r, 1+r.IntN(20)), 1+r.IntN(most)); e == api.OK {
			list = append(list, s)
		}
	}
	return list
}

// noScales returns lists that are no valid scales.
func noScales() [][]api.Pitch {
	list := [][]api.Pitch{
		nil, {}, long(65), long(100), slices.Repeat([]api.Pitch{{}}, 64), slices.Repeat([]api.Pitch{{}}, 65),
		{{1}}, {{-1}}, {{12}}, {{-12}}, {{-12, 12}}, {closePitches()[0]}, {over(unison, closePitches()[0])}, {{-12, 12}, {}}, three()[1:], {{-1}, {1}}, {{-242, 101, 457, -501, 131, -7}, {1}},
		{{}, {}}, {{}, {5}, {5}}, {{}, {5}, {5}, {6}}, {{}, {}, {5}}, {{}, {6}, {5}}, {{}, {5}, {7}, {6}}, {{}, {5}, {}}, {{}, {-1}}, {{}, {-1}, {1}}, {{}, {24, -12}, {-24, 0, 12}},
		{{}, {12}}, {{}, {13}}, {{}, {6}, {12}}, {{}, {6}, {13}}, {{}, {11}, {12}}, {{}, {0, 12}}, {{}, {-12, 12}, {24}}, {{}, {576}}, {{}, {5}, {-576}},
		{{}, {588, -370}}, {{}, {-588, 372}}, {{}, {-588, 372}, {1}}, {{}, {588, -370}, {6}}, {{}, {588, -370}, {588, -369}}, // each is in order, but not valid
	}
	for _, p := range closePitches() {
		more := times(api.Pitch{6}, p, 1)
		list = append(list, []api.Pitch{{}, times(octave, p, 1)}, []api.Pitch{{}, over(unison, p)}, []api.Pitch{{}, more, {6}}, []api.Pitch{{}, {6}, over(api.Pitch{6}, p)}, []api.Pitch{{}, more, more})
	}
	for _, bad := range noPitches() {
		list = append(list, []api.Pitch{bad}, []api.Pitch{{}, bad}, []api.Pitch{{}, bad, {5}}, []api.Pitch{{}, {5}, bad}, []api.Pitch{{}, {5}, {6}, bad, {7}})
	}
	return list
}

// wantValid reports whether s is a valid scale.
func wantValid(s []api.Pitch) bool {
	if len(s) < 1 || len(s) > 64 || !allFit(s) {
		return false
	}
	for i := range s[1:] {
		if order(s[i+1], s[i]) <= 0 {
			return false
		}
	}
	return s[0] == unison && order(s[len(s)-1], octave) < 0
}

// wantOctave returns what Octave is to return for a valid pitch: the logarithm of the number, to the power of twelve, is as great as the number has bits.
func wantOctave(p api.Pitch) (api.Pitch, int, api.Errno) {
	above, below := parts(p)
	bits := above.BitLen() - below.BitLen()
	above.Lsh(above, uint(max(-bits, 0)))
	below.Lsh(below, uint(max(bits, 0)))
	if above.Cmp(below) < 0 {
		bits--
	}
	o := int(math.Floor(float64(bits) / 12))
	q := times(p, octave, -o)
	if !fits(q) {
		return api.Pitch{}, 0, api.ErrRange
	}
	return q, o, api.OK
}

// wantChain returns what Chain is to return for valid arguments.
func wantChain(g api.Pitch, n int) ([]api.Pitch, api.Errno) {
	var s []api.Pitch
	for i := range n {
		p := times(unison, g, i)
		if !fits(p) {
			return nil, api.ErrRange
		}
		q, _, e := wantOctave(p)
		if e != api.OK {
			return nil, api.ErrRange
		}
		s = append(s, q)
	}
	s = rising(s)
	if len(s) < n {
		return nil, api.ErrTwice
	}
	return s, api.OK
}

// wantSteps returns what Steps is to return for a valid scale.
func wantSteps(s []api.Pitch) ([]api.Pitch, api.Errno) {
	var steps []api.Pitch
	for i, p := range append(slices.Clone(s[1:]), octave) {
		steps = append(steps, over(p, s[i]))
	}
	if !allFit(steps) {
		return nil, api.ErrRange
	}
	return steps, api.OK
}

// wantMode returns what Mode is to return for a valid scale and one of its degrees.
func wantMode(s []api.Pitch, degree int) ([]api.Pitch, api.Errno) {
	var mode []api.Pitch
	for i := range s {
		k := degree + i
		mode = append(mode, over(times(s[k%len(s)], octave, k/len(s)), s[degree]))
	}
	if !allFit(mode) {
		return nil, api.ErrRange
	}
	return mode, api.OK
}

// wantDegree returns what Degree is to return for a valid scale and a valid pitch.
func wantDegree(s []api.Pitch, p api.Pitch) (int, int, api.Errno) {
	q, o, e := wantOctave(p)
	if e != api.OK {
		return 0, 0, e
	}
	for i := range s {
		if s[i] == q {
			return i, o, api.OK
		}
	}
	return 0, 0, api.ErrNone
}

// wantNearest returns what Nearest is to return for a valid scale and a valid pitch.
func wantNearest(s []api.Pitch, p api.Pitch) (int, int, api.Errno) {
	q, o, e := wantOctave(p)
	if e != api.OK {
		return 0, 0, e
	}
	a := len(s) - 1
	for order(s[a], q) > 0 {
		a--
	}
	b := append(slices.Clone(s), octave)[a+1]
	if !fits(over(q, s[a])) || !fits(over(b, q)) {
		return 0, 0, api.ErrRange
	}
	if order(over(q, s[a]), over(b, q)) <= 0 {
		return a, o, api.OK
	}
	return (a + 1) % len(s), o + (a+1)/len(s), api.OK
}

// between returns a degree of a scale and the pitch that is half-way to the next one, if such a pitch is found, and else one that is near to it.
func between(r *rand.Rand, s []api.Pitch) (int, api.Pitch) {
	var i int
	var half api.Pitch
	for range 10 {
		i = r.IntN(len(s))
		double, odd := times(s[i], append(slices.Clone(s), octave)[i+1], 1), 0
		for c, e := range double {
			half[c] = e >> 1
			odd |= e & 1
		}
		if odd == 0 {
			break
		}
	}
	return i, half
}

// drawNear returns valid pitches to ask for with a scale: its degrees in different octaves, what is half-way between two of them, what is next to these, and others.
func drawNear(r *rand.Rand, s []api.Pitch) []api.Pitch {
	i, half := between(r, s)
	list := []api.Pitch{s[i], half, over(s[i], octave), drawInside(r, 3), drawInside(r, 40), drawInside(r, part), draw(r, 24), draw(r, part), unison, times(octave, unit(r.IntN(6), 1), -1)}
	for _, p := range slices.Clone(list) {
		tiny := closePitches()[r.IntN(6)]
		list = append(list, times(p, octave, number(r, 40)), times(p, tiny, 1), times(p, tiny, -1), times(p, unit(r.IntN(6), 1), 1-2*r.IntN(2)))
	}
	return slices.DeleteFunc(list, func(p api.Pitch) bool { return !fits(p) })
}

// expectValid checks what Valid returns.
func expectValid(t *testing.T, s []api.Pitch, want bool) {
	t.Helper()
	if got := scale.Valid(s); got != want {
		t.Errorf("Valid of %v: %v", s, got)
	}
}

// expectOctave checks what Octave returns.
func expectOctave(t *testing.T, p, want api.Pitch, o int, e api.Errno) {
	t.Helper()
	if q, n, f := scale.Octave(p); q != want || n != o || f != e {
		t.Errorf("Octave of %v: %v, %d, %v; want %v, %d, %v", p, q, n, f, want, o, e)
	}
}

// expectChain checks what Chain returns.
func expectChain(t *testing.T, g api.Pitch, n int, want []api.Pitch, e api.Errno) {
	t.Helper()
	if got, f := scale.Chain(g, n); !slices.Equal(got, want) || f != e {
		t.Errorf("Chain of %v, %d: %v, %v; want %v, %v", g, n, got, f, want, e)
	}
}

// expectSteps checks what Steps returns.
func expectSteps(t *testing.T, s, want []api.Pitch, e api.Errno) {
	t.Helper()
	if got, f := scale.Steps(s); !slices.Equal(got, want) || f != e {
		t.Errorf("Steps of %v: %v, %v; want %v, %v", s, got, f, want, e)
	}
}

// expectMode checks what Mode returns.
func expectMode(t *testing.T, s []api.Pitch, degree int, want []api.Pitch, e api.Errno) {
	t.Helper()
	if got, f := scale.Mode(s, degree); !slices.Equal(got, want) || f != e {
		t.Errorf("Mode of %v, %d: %v, %v; want %v, %v", s, degree, got, f, want, e)
	}
}

// expectDegree checks what Degree returns.
func expectDegree(t *testing.T, s []api.Pitch, p api.Pitch, degree, o int, e api.Errno) {
	t.Helper()
	if i, n, f := scale.Degree(s, p); i != degree || n != o || f != e {
		t.Errorf("Degree of %v, %v: %d, %d, %v; want %d, %d, %v", s, p, i, n, f, degree, o, e)
	}
}

// expectNearest checks what Nearest returns.
func expectNearest(t *testing.T, s []api.Pitch, p api.Pitch, degree, o int, e api.Errno) {
	t.Helper()
	if i, n, f := scale.Nearest(s, p); i != degree || n != o || f != e {
		t.Errorf("Nearest of %v, %v: %d, %d, %v; want %d, %d, %v", s, p, i, n, f, degree, o, e)
	}
}
