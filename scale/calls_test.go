package scale_test

import (
	"math"
	"math/rand/v2"
	"slices"
	"testing"

	"schisma/api"
)

// The tests of this file check P9.1, from I1 to I7.

func TestValidExamples(t *testing.T) {
	for _, s := range special() {
		expectValid(t, s, true)
		if !wantValid(s) {
			t.Errorf("%v is not to be valid", s)
		}
	}
	for _, s := range noScales() {
		expectValid(t, s, false)
		if wantValid(s) {
			t.Errorf("%v is to be valid", s)
		}
	}
}

func TestValidLengths(t *testing.T) {
	for n := range 70 {
		expectValid(t, long(n), 1 <= n && n <= 64)
		expectValid(t, slices.Repeat([]api.Pitch{unison}, n), n == 1)
	}
}

// TestValidOrder checks scales with a pitch, or two of them, that are wrong in one place.
func TestValidOrder(t *testing.T) {
	for _, s := range [][]api.Pitch{three(), equal(12), long(64)} {
		for i := range s {
			for _, wrong := range []api.Pitch{{}, octave, {-1}, {23}, full(part + 1), unit(3, -part-1), {588, -370}, times(s[i], octave, 1), over(s[i], octave), s[(i+1)%len(s)]} {
				bad := slices.Clone(s)
				bad[i] = wrong
				expectValid(t, bad, i == 0 && wrong == unison)
			}
			for _, other := range []int{i + 1, i + 2, len(s) - 1} {
				if other > i && other < len(s) {
					bad := slices.Clone(s)
					bad[i], bad[other] = bad[other], bad[i]
					expectValid(t, bad, false)
				}
			}
			expectValid(t, slices.Insert(slices.Clone(s), i, s[i]), false)
			expectValid(t, slices.Delete(slices.Clone(s), i, i+1), i > 0)
			expectValid(t, s[i:], i == 0)
			expectValid(t, s[:i], i > 0)
		}
	}
}

func TestValid(t *testing.T) {
	r := source()
	var count [2]int
	for _, s := range scales() {
		expectValid(t, s, true)
		for range 4 {
			other := slices.Clone(s)
			i := r.IntN(len(s))
			switch r.IntN(4) {
			case 0:
				other[i] = times(other[i], draw(r, 3), 1)
			case 1:
				other[i] = times(other[i], closePitches()[r.IntN(6)], 1)
			case 2:
				other = slices.Insert(other, i, drawInside(r, 20))
			default:
				other = rising(append(other, drawInside(r, 20)))
			}
			want := wantValid(other)
			expectValid(t, other, want)
			count[boolean(want)]++
		}
	}
	if min(count[0], count[1]) < 100 {
		t.Errorf("too few of a kind: %v", count)
	}
}

// boolean returns 1 for true and 0 for false.
func boolean(b bool) int {
	if b {
		return 1
	}
	return 0
}

func TestOctaveExamples(t *testing.T) {
	for _, x := range []struct {
		p, want api.Pitch
		o       int
	}{
		{api.Pitch{0, 12}, api.Pitch{-12, 12}, 1}, {api.Pitch{0, -12}, api.Pitch{24, -12}, -2},
		{unison, unison, 0}, {octave, unison, 1}, {api.Pitch{-12}, unison, -1}, {api.Pitch{576}, unison, 48}, {api.Pitch{-576}, unison, -48}, {api.Pitch{11}, api.Pitch{11}, 0}, {api.Pitch{13}, api.Pitch{1}, 1}, {api.Pitch{-1}, api.Pitch{11}, -1}, {api.Pitch{-13}, api.Pitch{11}, -2}, {api.Pitch{575}, api.Pitch{11}, 47}, {api.Pitch{-575}, api.Pitch{1}, -48},
		{api.Pitch{-12, 12}, api.Pitch{-12, 12}, 0}, {api.Pitch{12, -12}, api.Pitch{24, -12}, -1}, {api.Pitch{0, 0, 12}, api.Pitch{-24, 0, 12}, 2}, {api.Pitch{0, 0, 0, 0, 0, -12}, api.Pitch{48, 0, 0, 0, 0, -12}, -4}, {api.Pitch{-228, 144}, api.Pitch{-228, 144}, 0}, {api.Pitch{228, -144}, api.Pitch{240, -144}, -1},
		// The exponent of 2 that is left is at its bound, or next to it.
		{api.Pitch{0, 366}, api.Pitch{-576, 366}, 48}, {api.Pitch{576, 366}, api.Pitch{-576, 366}, 96}, {api.Pitch{564, 366}, api.Pitch{-576, 366}, 95}, {api.Pitch{-576, 366}, api.Pitch{-576, 366}, 0}, {api.Pitch{-575, 366}, api.Pitch{-575, 366}, 0}, {api.Pitch{1, 366}, api.Pitch{-575, 366}, 48}, {api.Pitch{11, 360}, api.Pitch{-565, 360}, 48},
		{api.Pitch{0, -363}, api.Pitch{576, -363}, -48}, {api.Pitch{-576, -363}, api.Pitch{576, -363}, -96}, {api.Pitch{-564, -363}, api.Pitch{576, -363}, -95}, {api.Pitch{576, -363}, api.Pitch{576, -363}, 0}, {api.Pitch{575, -360}, api.Pitch{575, -360}, 0}, {api.Pitch{-1, -360}, api.Pitch{575, -360}, -48},
		{api.Pitch{12, 366}, api.Pitch{-576, 366}, 49}, {api.Pitch{-12, 366}, api.Pitch{-576, 366}, 47}, {api.Pitch{24, -363}, api.Pitch{576, -363}, -46},
	} {
		expectOctave(t, x.p, x.want, x.o, api.OK)
		if q, o, e := wantOctave(x.p); q != x.want || o != x.o || e != api.OK {
			t.Errorf("%v is to have %v and %d", x.p, q, o)
		}
	}
}

func TestOctaveOutOfRange(t *testing.T) {
	list := []api.Pitch{{0, 372}, {0, -372}, {0, 576}, {0, -576}, {576, 372}, {-576, 372}, {576, 576}, {-576, 576}, {576, -576}, {-576, -576}, full(576), full(-576), {0, 576, 576, 576, 576, 576}, {1, 371}, {-5, 371}, {0, -364}, {-576, -364}, {576, -364}, {-1, -365}, {0, 0, 0, 0, 0, 576}, {0, 0, 0, 0, 0, -576}}
	for _, p := range list {
		expectOctave(t, p, api.Pitch{}, 0, api.ErrRange)
		if q, o, e := wantOctave(p); e != api.ErrRange {
			t.Errorf("%v is to have %v and %d", p, q, o)
		}
	}
}

func TestOctaveOfNoPitches(t *testing.T) {
	for _, p := range noPitches() {
		expectOctave(t, p, api.Pitch{}, 0, api.ErrArg)
	}
}

// TestOctaveOfPrimes checks all powers of each prime, and about the bounds those of 3 with each power of 2.
func TestOctaveOfPrimes(t *testing.T) {
	check := func(p api.Pitch) {
		q, o, e := wantOctave(p)
		expectOctave(t, p, q, o, e)
	}
	for e := -part; e <= part; e++ {
		expectOctave(t, api.Pitch{e}, api.Pitch{(e + part) % 12}, (e+part)/12-48, api.OK)
		for c := range 6 {
			check(unit(c, e))
		}
		for _, three := range []int{-376, -375, -370, -366, -365, -364, -363, -362, -361, -360, -359, -1, 1, 355, 356, 357, 358, 359, 363, 364, 365, 366, 367, 371, 372, 375} {
			check(api.Pitch{e, three})
		}
	}
}

// TestOctaveOfClosePitches checks what is closely above or below a power of the octave.
func TestOctaveOfClosePitches(t *testing.T) {
	for _, p := range closePitches() {
		for n := -96; n <= 96; n++ {
			if above := times(p, octave, n); fits(above) {
				expectOctave(t, above, p, n, api.OK)
			}
			if below := over(times(unison, octave, n), p); fits(below) {
				if q := over(octave, p); fits(q) {
					expectOctave(t, below, q, n-1, api.OK)
				} else {
					expectOctave(t, below, api.Pitch{}, 0, api.ErrRange)
				}
			}
		}
	}
}

func TestOctave(t *testing.T) {
	r := source()
	var count [2]int
	for _, top := range []int{1, 3, 12, 60, 200, 400, part} {
		for range 800 {
			p := draw(r, top)
			q, o, e := wantOctave(p)
			expectOctave(t, p, q, o, e)
			count[boolean(e == api.OK)]++
		}
	}
	for bits := range 64 {
		var p api.Pitch
		for c := range p {
			p[c] = part - 2*part*(bits>>c&1)
		}
		q, o, e := wantOctave(p)
		expectOctave(t, p, q, o, e)
	}
	if min(count[0], count[1]) < 1000 {
		t.Errorf("too few of a kind: %v", count)
	}
}

func TestChainExamples(t *testing.T) {
	for _, x := range []struct {
		g    api.Pitch
		n    int
		want []api.Pitch
	}{
		{api.Pitch{-12, 12}, 3, three()}, {api.Pitch{-12, 12}, 1, []api.Pitch{{}}}, {api.Pitch{-12, 12}, 2, []api.Pitch{{}, {-12, 12}}}, {api.Pitch{0, 12}, 3, three()}, {api.Pitch{564, 12}, 2, []api.Pitch{{}, {-12, 12}}}, {api.Pitch{12, -12}, 3, []api.Pitch{{}, {24, -12}, {48, -24}}},
		{api.Pitch{-12, 12}, 7, []api.Pitch{{}, {-36, 24}, {-72, 48}, {-108, 72}, {-12, 12}, {-48, 36}, {-84, 60}}},
		{api.Pitch{1}, 12, equal(12)}, {api.Pitch{-1}, 12, equal(12)}, {api.Pitch{7}, 12, equal(12)}, {api.Pitch{5}, 12, equal(12)}, {api.Pitch{4}, 3, equal(3)}, {api.Pitch{-6}, 2, equal(2)},
		{unison, 1, equal(1)}, {octave, 1, equal(1)}, {api.Pitch{-12}, 1, equal(1)}, {full(576), 1, equal(1)}, {full(-576), 1, equal(1)}, {api.Pitch{0, 576}, 1, equal(1)},
		{api.Pitch{0, 1}, 64, long(64)}, {api.Pitch{0, 1}, 63, long(63)}, {api.Pitch{9, 1}, 2, []api.Pitch{{}, {9, 1}}}, {api.Pitch{0, 0, 3}, 5, []api.Pitch{{}, {-12, 0, 6}, {-24, 0, 12}, {0, 0, 3}, {-12, 0, 9}}},
	} {
		expectChain(t, x.g, x.n, x.want, api.OK)
		if want, e := wantChain(x.g, x.n); !slices.Equal(want, x.want) || e != api.OK {
			t.Errorf("%v, %d is to have %v", x.g, x.n, want)
		}
	}
}

func TestChainErrors(t *testing.T) {
	for _, x := range []struct {
		g    api.Pitch
		n    int
		want api.Errno
	}{
		{octave, 2, api.ErrTwice}, {unison, 2, api.ErrTwice}, {unison, 64, api.ErrTwice}, {api.Pitch{-12}, 2, api.ErrTwice}, {api.Pitch{1}, 13, api.ErrTwice}, {api.Pitch{1}, 64, api.ErrTwice}, {api.Pitch{6}, 3, api.ErrTwice}, {api.Pitch{7}, 13, api.ErrTwice}, {api.Pitch{8}, 4, api.ErrTwice}, {api.Pitch{24}, 2, api.ErrTwice}, {api.Pitch{576}, 2, api.ErrTwice}, {api.Pitch{-576}, 2, api.ErrTwice},
		// A power leaves the range, also where two pitches before it are equal.
		{octave, 49, api.ErrTwice}, {octave, 50, api.ErrRange}, {octave, 64, api.ErrRange}, {api.Pitch{-12}, 49, api.ErrTwice}, {api.Pitch{-12}, 50, api.ErrRange}, {api.Pitch{576}, 3, api.ErrRange}, {api.Pitch{9}, 64, api.ErrTwice}, {api.Pitch{-10}, 58, api.ErrTwice}, {api.Pitch{-10}, 59, api.ErrRange}, {api.Pitch{289}, 3, api.ErrRange}, {api.Pitch{288}, 3, api.ErrTwice},
		{api.Pitch{0, 289}, 3, api.ErrRange}, {api.Pitch{-456, 288}, 3, api.ErrRange}, {full(288), 3, api.ErrRange}, {api.Pitch{-178, -449, 439, 153, 140, -282}, 2, api.OK}, {api.Pitch{-178, -449, 439, 153, 140, -282}, 3, api.ErrRange},
		// What is left of a power within the octave leaves the range, but not the power.
		{api.Pitch{0, 372}, 2, api.ErrRange}, {api.Pitch{0, 372}, 1, api.OK}, {api.Pitch{-12, 12}, 31, api.OK}, {api.Pitch{-12, 12}, 32, api.ErrRange}, {api.Pitch{-12, 12}, 49, api.ErrRange}, {api.Pitch{-12, 12}, 50, api.ErrRange}, {api.Pitch{0, 12}, 31, api.OK}, {api.Pitch{0, 12}, 32, api.ErrRange}, {api.Pitch{0, 6}, 62, api.OK}, {api.Pitch{0, 6}, 63, api.ErrRange}, {full(576), 2, api.ErrRange}, {full(-576), 2, api.ErrRange},
		// Numbers that are out of range, whatever the generator is.
		{api.Pitch{0, 1}, 0, api.ErrArg}, {api.Pitch{0, 1}, 65, api.ErrArg}, {api.Pitch{0, 1}, -1, api.ErrArg}, {api.Pitch{0, 1}, math.MaxInt, api.ErrArg}, {api.Pitch{0, 1}, math.MinInt, api.ErrArg}, {api.Pitch{0, 1}, 1 << 32, api.ErrArg}, {api.Pitch{0, 1}, 1<<32 + 1, api.ErrArg}, {octave, 65, api.ErrArg}, {unison, 65, api.ErrArg}, {unison, 0, api.ErrArg}, {octave, 0, api.ErrArg}, {full(576), 65, api.ErrArg},
		{full(577), 1, api.ErrArg}, {full(577), 0, api.ErrArg}, {full(577), 65, api.ErrArg}, {api.Pitch{577}, 1, api.ErrArg}, {api.Pitch{588, -370}, 1, api.ErrArg}, {api.Pitch{588, -370}, 2, api.ErrArg},
	} {
		var s []api.Pitch
		if x.want == api.OK {
			s, _ = wantChain(x.g, x.n)
		}
		expectChain(t, x.g, x.n, s, x.want)
	}
	for _, bad := range noPitches() {
		for _, n := range []int{0, 1, 2, 64, 65} {
			expectChain(t, bad, n, nil, api.ErrArg)
		}
	}
}

// TestChainLengths checks chains of all lengths.
func TestChainLengths(t *testing.T) {
	for _, g := range []api.Pitch{unison, octave, {1}, {5}, {-12}, {0, 1}, {-12, 12}, {0, -7}, {3, 1}, {0, 0, 3}, {0, 0, 0, 0, 0, 5}, {-24, 0, 9, 2}} {
		for n := -1; n <= 66; n++ {
			if n < 1 || n > 64 {
				expectChain(t, g, n, nil, api.ErrArg)
				continue
			}
			want, e := wantChain(g, n)
			expectChain(t, g, n, want, e)
		}
	}
}

func TestChain(t *testing.T) {
	r := source()
	count := map[api.Errno]int{}
	for _, top := range []int{1, 2, 5, 9, 14, 40, 120, 300, part} {
		for range 120 {
			g, n := draw(r, top), 1+r.IntN(most)
			switch r.IntN(5) {
			case 0:
				g = unit(0, number(r, top))
			case 1:
				n = 1 + r.IntN(4)
			}
			want, e := wantChain(g, n)
			expectChain(t, g, n, want, e)
			count[e]++
		}
	}
	if min(count[api.OK], count[api.ErrRange], count[api.ErrTwice]) < 100 {
		t.Errorf("too few of a kind: %v", count)
	}
}

func TestStepsExamples(t *testing.T) {
	for _, x := range []struct {
		s, want []api.Pitch
	}{
		{three(), []api.Pitch{{-36, 24}, {24, -12}, {24, -12}}}, {equal(1), []api.Pitch{{12}}}, {equal(2), []api.Pitch{{6}, {6}}}, {equal(12), slices.Repeat([]api.Pitch{{1}}, 12)}, {[]api.Pitch{{}, {11}}, []api.Pitch{{11}, {1}}},
		// Exponents at their bound, and next to it.
		{[]api.Pitch{{}, {-564, 356}}, []api.Pitch{{-564, 356}, {576, -356}}}, {[]api.Pitch{{}, {576, -363}}, []api.Pitch{{576, -363}, {-564, 363}}}, {[]api.Pitch{{}, {-565, 357}}, nil}, {[]api.Pitch{{}, {-576, 364}}, nil}, {[]api.Pitch{{}, {-288, 182}, {288, -181}}, []api.Pitch{{-288, 182}, {576, -363}, {-276, 181}}}, {[]api.Pitch{{}, {-289, 183}, {288, -181}}, nil},
		{[]api.Pitch{{}, {-50, 0, 0, 0, 0, 14}, {-50, 0, 0, 0, 0, 15}}, []api.Pitch{{-50, 0, 0, 0, 0, 14}, unit(5, 1), {62, 0, 0, 0, 0, -15}}}, {[]api.Pitch{{}, {-290, 183}, {290, -182}}, nil},
	} {
		e := api.OK
		if x.want == nil {
			e = api.ErrRange
		}
		expectSteps(t, x.s, x.want, e)
		expectValid(t, x.s, true)
	}
}

func TestSteps(t *testing.T) {
	var count [2]int
	for _, s := range scales() {
		want, e := wantSteps(s)
		expectSteps(t, s, want, e)
		count[boolean(e == api.OK)]++
	}
	if min(count[0], count[1]) < 20 {
		t.Errorf("too few of a kind: %v", count)
	}
}

// TestQuotientsAtTheBounds checks steps and modes with a quotient that is just valid, or just not any more, in each column.
func TestQuotientsAtTheBounds(t *testing.T) {
	r := source()
	var count [2]int
	for c := 1; c < 6; c++ {
		for _, x := range [][2]int{{-288, 288}, {-289, 288}, {-288, 289}, {288, -288}, {289, -288}, {288, -289}, {-576, 0}, {-576, 1}, {576, 0}, {576, -1}, {575, -1}, {-575, 1}} {
			s := []api.Pitch{unison, drawAt(r, c, x[0]), drawAt(r, c, x[1])}
			if order(s[1], s[2]) > 0 {
				s[1], s[2] = s[2], s[1]
			}
			steps, e := wantSteps(s)
			expectSteps(t, s, steps, e)
			count[boolean(e == api.OK)]++
			for degree := range s {
				mode, e := wantMode(s, degree)
				expectMode(t, s, degree, mode, e)
				count[boolean(e == api.OK)]++
			}
		}
	}
	if min(count[0], count[1]) < 50 {
		t.Errorf("too few of a kind: %v", count)
	}
}

// drawAt returns a valid pitch within the octave that has n in a column, and small exponents elsewhere, as far as they may be small.
func drawAt(r *rand.Rand, column, n int) api.Pitch {
	for top := 1; ; top = min(top+1, part) {
		p := draw(r, top)
		p[column] = n
		if q, _, e := wantOctave(p); e == api.OK {
			return q
		}
	}
}

func TestModeExamples(t *testing.T) {
	for _, x := range []struct {
		s      []api.Pitch
		degree int
		want   []api.Pitch
	}{
		{three(), 1, []api.Pitch{{}, {24, -12}, {48, -24}}}, {three(), 0, three()}, {three(), 2, []api.Pitch{{}, {24, -12}, {-12, 12}}}, {equal(1), 0, equal(1)}, {equal(2), 1, equal(2)}, {equal(12), 11, equal(12)}, {[]api.Pitch{{}, {11}}, 1, []api.Pitch{{}, {1}}}, {[]api.Pitch{{}, {1}}, 1, []api.Pitch{{}, {11}}},
		// The quotient is valid, though the pitch times the octave is not.
		{[]api.Pitch{{}, {576, -363}, {576, -360}}, 2, []api.Pitch{{}, {-564, 360}, {12, -3}}},
		// The quotient times the octave is valid, though the quotient itself would not be.
		{[]api.Pitch{{}, {-290, 183}, {290, -182}}, 2, []api.Pitch{{}, {-278, 182}, {-568, 365}}},
		{[]api.Pitch{{}, {-290, 183}, {290, -182}}, 1, nil}, {[]api.Pitch{{}, {-565, 357}}, 1, nil}, {[]api.Pitch{{}, {-564, 356}}, 1, []api.Pitch{{}, {576, -356}}}, {[]api.Pitch{{}, {-576, 364}}, 1, nil}, {[]api.Pitch{{}, {-576, 364}}, 0, []api.Pitch{{}, {-576, 364}}},
	} {
		e := api.OK
		if x.want == nil {
			e = api.ErrRange
		}
		expectMode(t, x.s, x.degree, x.want, e)
		expectValid(t, x.s, true)
	}
}

func TestMode(t *testing.T) {
	var count [2]int
	for _, s := range scales() {
		for degree := range s {
			want, e := wantMode(s, degree)
			expectMode(t, s, degree, want, e)
			count[boolean(e == api.OK)]++
		}
		for _, degree := range []int{-1, -len(s), len(s), len(s) + 1, 64, 128, math.MaxInt, math.MinInt, 1 << 32, -1 << 32} {
			expectMode(t, s, degree, nil, api.ErrArg)
		}
	}
	if min(count[0], count[1]) < 100 {
		t.Errorf("too few of a kind: %v", count)
	}
}

func TestDegreeExamples(t *testing.T) {
	for _, x := range []struct {
		s         []api.Pitch
		p         api.Pitch
		degree, o int
		e         api.Errno
	}{
		{three(), api.Pitch{-12, 24}, 1, 2, api.OK}, {three(), unison, 0, 0, api.OK}, {three(), octave, 0, 1, api.OK}, {three(), api.Pitch{-12}, 0, -1, api.OK}, {three(), api.Pitch{0, 12}, 2, 1, api.OK}, {three(), api.Pitch{-24, 12}, 2, -1, api.OK}, {three(), api.Pitch{0, 24}, 1, 3, api.OK}, {equal(12), api.Pitch{-576}, 0, -48, api.OK}, {equal(12), api.Pitch{576}, 0, 48, api.OK}, {equal(12), api.Pitch{-1}, 11, -1, api.OK}, {long(64), api.Pitch{0, 576}, 0, 0, api.ErrRange},
		{three(), api.Pitch{1}, 0, 0, api.ErrNone}, {three(), api.Pitch{-12, 13}, 0, 0, api.ErrNone}, {three(), api.Pitch{-24, 0, 12}, 0, 0, api.ErrNone}, {three(), times(api.Pitch{-12, 12}, closePitches()[0], 1), 0, 0, api.ErrNone}, {equal(6), api.Pitch{1}, 0, 0, api.ErrNone}, {equal(1), api.Pitch{0, 12}, 0, 0, api.ErrNone}, {equal(12), closePitches()[1], 0, 0, api.ErrNone},
		{three(), api.Pitch{0, 372}, 0, 0, api.ErrRange}, {three(), full(576), 0, 0, api.ErrRange}, {equal(1), api.Pitch{0, -576}, 0, 0, api.ErrRange}, {three(), full(577), 0, 0, api.ErrArg}, {nil, api.Pitch{0, 372}, 0, 0, api.ErrArg}, {nil, api.Pitch{1}, 0, 0, api.ErrArg}, {nil, unison, 0, 0, api.ErrArg}, {[]api.Pitch{{}, {588, -370}}, api.Pitch{588, -370}, 0, 0, api.ErrArg}, {three(), api.Pitch{588, -370}, 0, 0, api.ErrArg},
		{[]api.Pitch{{}, {-576, 364}}, api.Pitch{576, 364}, 1, 96, api.OK}, {[]api.Pitch{{}, {576, -363}}, api.Pitch{-576, -363}, 1, -96, api.OK},
	} {
		expectDegree(t, x.s, x.p, x.degree, x.o, x.e)
	}
}

func TestNearestExamples(t *testing.T) {
	tiny := closePitches()[3]
	for _, x := range []struct {
		s         []api.Pitch
		p         api.Pitch
		degree, o int
		e         api.Errno
	}{
		{three(), api.Pitch{0, -12, 12}, 2, 0, api.OK}, {three(), api.Pitch{-36, 12, 12}, 0, 1, api.OK}, {three(), api.Pitch{-12, 24}, 1, 2, api.OK}, {three(), api.Pitch{24, -12, 12}, 2, 2, api.OK}, {three(), api.Pitch{-60, 12, 12}, 0, -1, api.OK},
		// As near to both: the lower one, in each octave.
		{equal(1), api.Pitch{6}, 0, 0, api.OK}, {equal(1), api.Pitch{18}, 0, 1, api.OK}, {equal(1), api.Pitch{-6}, 0, -1, api.OK}, {equal(1), api.Pitch{570}, 0, 47, api.OK}, {equal(6), api.Pitch{5}, 2, 0, api.OK}, {equal(6), api.Pitch{11}, 5, 0, api.OK}, {equal(6), api.Pitch{-1}, 5, -1, api.OK}, {three(), api.Pitch{-18, 12}, 0, 0, api.OK}, {three(), api.Pitch{-24, 18}, 1, 0, api.OK}, {three(), api.Pitch{0, 6}, 2, 0, api.OK}, {three(), api.Pitch{-12, 18}, 1, 1, api.OK},
		// Next to what is as near to both, by less than sums of logarithms tell.
		{equal(1), times(api.Pitch{6}, tiny, 1), 0, 1, api.OK}, {equal(1), times(api.Pitch{6}, tiny, -1), 0, 0, api.OK}, {equal(1), times(api.Pitch{-6}, tiny, 1), 0, 0, api.OK}, {equal(1), times(api.Pitch{-6}, tiny, -1), 0, -1, api.OK}, {three(), times(api.Pitch{-24, 18}, tiny, 1), 2, 0, api.OK}, {three(), times(api.Pitch{-24, 18}, tiny, -1), 1, 0, api.OK}, {three(), times(api.Pitch{0, 6}, tiny, 1), 0, 1, api.OK}, {three(), times(api.Pitch{0, 6}, tiny, -1), 2, 0, api.OK}, {three(), times(api.Pitch{-18, 12}, tiny, 1), 1, 0, api.OK}, {three(), times(api.Pitch{-18, 12}, tiny, -1), 0, 0, api.OK},
		{equal(1), api.Pitch{7}, 0, 1, api.OK}, {equal(1), api.Pitch{5}, 0, 0, api.OK}, {equal(1), api.Pitch{11}, 0, 1, api.OK}, {equal(1), api.Pitch{575}, 0, 48, api.OK}, {equal(1), api.Pitch{576}, 0, 48, api.OK}, {equal(1), api.Pitch{-576}, 0, -48, api.OK}, {equal(1), api.Pitch{-575}, 0, -48, api.OK}, {equal(12), api.Pitch{-576, 364}, 0, 0, api.ErrRange},
		// The degrees themselves, and what is between the last one and the octave.
		{three(), unison, 0, 0, api.OK}, {three(), api.Pitch{-36, 24}, 1, 0, api.OK}, {three(), api.Pitch{-12, 12}, 2, 0, api.OK}, {three(), octave, 0, 1, api.OK}, {three(), api.Pitch{9}, 2, 0, api.OK}, {three(), api.Pitch{10}, 0, 1, api.OK}, {three(), api.Pitch{-3}, 2, -1, api.OK}, {three(), api.Pitch{-2}, 0, 0, api.OK},
		// A quotient is not valid: that with the degree below, that with the one above, or both.
		{[]api.Pitch{{}, {-290, 183}}, api.Pitch{290, -182}, 0, 0, api.ErrRange}, {[]api.Pitch{{}, {290, -182}}, api.Pitch{-290, 183}, 0, 0, api.ErrRange}, {[]api.Pitch{{}, {-290, 183}, {-299, 192}}, api.Pitch{290, -182}, 0, 0, api.ErrRange}, {equal(1), api.Pitch{-565, 357}, 0, 0, api.ErrRange}, {equal(1), api.Pitch{-564, 356}, 0, 0, api.OK}, {equal(1), api.Pitch{-576, 364}, 0, 0, api.ErrRange}, {[]api.Pitch{{}, {-576, 364}}, api.Pitch{-576, 364}, 0, 0, api.ErrRange},
		{three(), api.Pitch{0, 372}, 0, 0, api.ErrRange}, {equal(1), full(-576), 0, 0, api.ErrRange}, {three(), full(577), 0, 0, api.ErrArg}, {nil, api.Pitch{0, 372}, 0, 0, api.ErrArg}, {nil, unison, 0, 0, api.ErrArg}, {[]api.Pitch{{}, {588, -370}}, unison, 0, 0, api.ErrArg}, {three(), api.Pitch{588, -370}, 0, 0, api.ErrArg},
	} {
		expectNearest(t, x.s, x.p, x.degree, x.o, x.e)
		if x.e != api.ErrArg {
			if i, n, e := wantNearest(x.s, x.p); i != x.degree || n != x.o || e != x.e {
				t.Errorf("%v, %v is to have %d, %d, %v", x.s, x.p, i, n, e)
			}
		}
	}
}

func TestDegreeAndNearest(t *testing.T) {
	r := source()
	count, near := map[api.Errno]int{}, map[string]int{}
	for _, s := range scales() {
		for _, p := range drawNear(r, s) {
			degree, o, e := wantDegree(s, p)
			expectDegree(t, s, p, degree, o, e)
			count[e]++
			i, n, e := wantNearest(s, p)
			expectNearest(t, s, p, i, n, e)
			near[kindOf(s, p)]++
		}
	}
	for _, e := range []api.Errno{api.OK, api.ErrRange, api.ErrNone} {
		if count[e] < 500 {
			t.Errorf("%v came only %d times", e, count[e])
		}
	}
	for _, kind := range []string{"range", "below", "above", "octave", "both", "itself"} {
		if near[kind] < 100 {
			t.Errorf("too few of a kind: %v", near)
		}
	}
}

// kindOf says of what kind the degree is that is the nearest one to a valid pitch: itself, below it, above it, the octave, or as near as another one.
func kindOf(s []api.Pitch, p api.Pitch) string {
	i, n, e := wantNearest(s, p)
	if e != api.OK {
		return "range"
	}
	found := times(s[i], octave, n)
	above := times(append(slices.Clone(s), octave)[i+1], octave, n)
	switch {
	case found == p:
		return "itself"
	case over(p, found) == over(above, p):
		return "both"
	case order(found, p) < 0:
		return "below"
	case i == 0:
		return "octave"
	}
	return "above"
}
