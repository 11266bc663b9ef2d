package pitch_test

import (
	"fmt"
	"math"
	"math/big"
	"testing"

	"schisma/api"
	"schisma/natural"
	"schisma/pitch"
)

// The tests of this file check P3.1, from C1 to C10 without C8.

func TestValid(t *testing.T) {
	for _, p := range pitches() {
		if !pitch.Valid(p) {
			t.Errorf("%v is said to be no pitch", p)
		}
	}
	for _, p := range outside(part) {
		if pitch.Valid(p) {
			t.Errorf("%v is said to be a pitch", p)
		}
	}
}

func TestInterval(t *testing.T) {
	for _, v := range intervals() {
		if !pitch.Interval(v) {
			t.Errorf("%v is said to be no interval", v)
		}
	}
	for _, v := range outside(whole) {
		if pitch.Interval(v) {
			t.Errorf("%v is said to be an interval", v)
		}
	}
}

// TestBounds checks every exponent of every prime about the bounds of pitches and intervals.
func TestBounds(t *testing.T) {
	for i := range 6 {
		for e := -700; e <= 700; e++ {
			var list [6]int
			list[i] = e
			if pitch.Valid(list) != (-576 <= e && e <= 576) {
				t.Errorf("Valid of %v: %v", list, pitch.Valid(list))
			}
			if pitch.Interval(list) != (-48 <= e && e <= 48) {
				t.Errorf("Interval of %v: %v", list, pitch.Interval(list))
			}
		}
	}
}

func TestOf(t *testing.T) {
	for _, v := range intervals() {
		p, e := pitch.Of(v)
		want := api.Pitch{12 * v[0], 12 * v[1], 12 * v[2], 12 * v[3], 12 * v[4], 12 * v[5]}
		expect(t, fmt.Sprint("Of of ", v), p, e, want)
		back, e := pitch.Whole(p)
		expect(t, fmt.Sprint("Whole of ", p), back, e, v)
	}
	for _, v := range outside(whole) {
		p, e := pitch.Of(v)
		refused(t, fmt.Sprint("Of of ", v), p, e, api.ErrArg)
	}
}

func TestWhole(t *testing.T) {
	for i := range 6 {
		for e := -part; e <= part; e++ {
			p := api.Pitch{576, -12, 0, 24, 36, -576}
			p[i] = e
			v, wrong := pitch.Whole(p)
			if e%12 != 0 {
				refused(t, fmt.Sprint("Whole of ", p), v, wrong, api.ErrKind)
				continue
			}
			want := api.Vec{48, -1, 0, 2, 3, -48}
			want[i] = e / 12
			expect(t, fmt.Sprint("Whole of ", p), v, wrong, want)
		}
	}
	v, e := pitch.Whole(api.Pitch{0, 0, 3})
	refused(t, "Whole of 5^1/4", v, e, api.ErrKind)
	for _, p := range outside(part) { // among them exponents that are multiples of 12, and others that are not
		v, e := pitch.Whole(p)
		refused(t, fmt.Sprint("Whole of ", p), v, e, api.ErrArg)
	}
	v, e = pitch.Whole(api.Pitch{1, 588})
	refused(t, "Whole of an invalid pitch that has no interval either", v, e, api.ErrArg)
}

func TestMulAndDiv(t *testing.T) {
	list := pitches()
	for _, a := range list {
		for _, b := range list {
			product, e := pitch.Mul(a, b)
			answers(t, fmt.Sprint("Mul of ", a, b), product, e, minus(a, negative(b)))
			quotient, e := pitch.Div(a, b)
			answers(t, fmt.Sprint("Div of ", a, b), quotient, e, minus(a, b))
		}
	}
}

func TestMulAndDivAtTheBounds(t *testing.T) {
	for i := range 6 {
		for _, x := range [][2]int{{576, 0}, {575, 1}, {288, 288}, {-576, 0}, {-575, -1}, {576, -576}, {576, 1}, {288, 289}, {-576, -1}, {576, 576}, {-576, -576}} {
			var a, b, want api.Pitch
			a[i], b[i], want[i] = x[0], x[1], x[0]+x[1]
			got, e := pitch.Mul(a, b)
			answers(t, fmt.Sprint("Mul of ", a, b), got, e, want)
			got, e = pitch.Div(a, negative(b))
			answers(t, fmt.Sprint("Div of ", a, negative(b)), got, e, want)
		}
	}
}

// powered returns what Power is to return for a pitch, n and d that are all valid.
func powered(p api.Pitch, n, d int) (api.Pitch, api.Errno) {
	for i, e := range p {
		if new(big.Int).Mod(big.NewInt(int64(e*n)), big.NewInt(int64(d))).Sign() != 0 {
			return api.Pitch{}, api.ErrKind
		}
		p[i] = e * n / d
	}
	if !valid(p, part) {
		return api.Pitch{}, api.ErrRange
	}
	return p, api.OK
}

func TestPower(t *testing.T) {
	r := source()
	for _, p := range pitches() {
		for d := 1; d <= 12; d++ {
			for _, n := range []int{0, 1, -1, 2, -3, 4, 5, -6, 7, 11, 12, -12, 48, 575, 576, -576, r.IntN(40) - 20} {
				got, e := pitch.Power(p, n, d)
				if want, wrong := powered(p, n, d); got != want || e != wrong {
					t.Errorf("Power of %v, %d, %d: %v, %v; want %v, %v", p, n, d, got, e, want, wrong)
				}
			}
		}
	}
	got, e := pitch.Power(must(pitch.Of(api.Vec{0, 0, 1})), 1, 4)
	expect(t, "Power of 5, 1, 4", got, e, api.Pitch{0, 0, 3})
	got, e = pitch.Power(api.Pitch{-12, 12}, -576, 12)
	expect(t, "Power of 3/2, -576, 12", got, e, api.Pitch{576, -576})
	got, e = pitch.Power(api.Pitch{1, -1, 1, -1, 1, -1}, 576, 1)
	expect(t, "Power of twelfths, 576, 1", got, e, api.Pitch{576, -576, 576, -576, 576, -576})
}

func TestPowerAtTheBounds(t *testing.T) {
	for i := range 6 {
		for _, x := range []struct {
			e, n, d int
			wrong   api.Errno
			want    int
		}{
			{576, 1, 1, api.OK, 576}, {576, -1, 1, api.OK, -576}, {288, 2, 1, api.OK, 576}, {289, 2, 1, api.ErrRange, 0}, {-289, 2, 1, api.ErrRange, 0}, {289, -2, 1, api.ErrRange, 0},
			{1, 576, 1, api.OK, 576}, {1, -576, 1, api.OK, -576}, {2, 289, 1, api.ErrRange, 0}, {576, 576, 1, api.ErrRange, 0}, {-576, 576, 1, api.ErrRange, 0},
			{576, 12, 12, api.OK, 576}, {576, 13, 12, api.ErrRange, 0}, {12, 576, 12, api.OK, 576}, {13, 576, 12, api.ErrRange, 0}, {13, 13, 12, api.ErrKind, 0},
			{1, 0, 12, api.OK, 0}, {1, 1, 2, api.ErrKind, 0}, {-1, 1, 2, api.ErrKind, 0}, {1, -1, 2, api.ErrKind, 0}, {575, 575, 12, api.ErrKind, 0}, {-575, 576, 12, api.ErrRange, 0},
		} {
			var p, want api.Pitch
			p[i], want[i] = x.e, x.want
			got, e := pitch.Power(p, x.n, x.d)
			if got != want || e != x.wrong {
				t.Errorf("Power of %v, %d, %d: %v, %v; want %v, %v", p, x.n, x.d, got, e, want, x.wrong)
			}
		}
	}
}

// TestPowerKindBeforeRange checks that no exponent that is too great hides one that is not whole, wherever both stand.
func TestPowerKindBeforeRange(t *testing.T) {
	for i := range 6 {
		for k := range 6 {
			if i != k {
				var p api.Pitch
				p[i], p[k] = 576, 1
				got, e := pitch.Power(p, 5, 2)
				refused(t, fmt.Sprint("Power of ", p, " 5, 2"), got, e, api.ErrKind)
				got, e = pitch.Power(p, -575, 12)
				refused(t, fmt.Sprint("Power of ", p, " -575, 12"), got, e, api.ErrKind)
			}
		}
	}
}

func TestPowerOfOtherExponents(t *testing.T) {
	for _, p := range []api.Pitch{{}, {1}, {12}, {0, 576, -576}, {5, 7, 11}} {
		for _, n := range []int{577, -577, 1152, 1 << 32, 1<<32 + 1, math.MaxInt, math.MinInt} {
			for _, d := range []int{0, 1, 5, 12, 13} {
				got, e := pitch.Power(p, n, d)
				refused(t, fmt.Sprint("Power of ", p, n, d), got, e, api.ErrArg)
			}
		}
		for _, d := range []int{0, -1, -12, 13, 24, 1 << 32, 1<<32 + 1, math.MaxInt, math.MinInt} {
			for _, n := range []int{0, 1, -1, 12, 576, -576} {
				got, e := pitch.Power(p, n, d)
				refused(t, fmt.Sprint("Power of ", p, n, d), got, e, api.ErrArg)
			}
		}
	}
}

func TestRatio(t *testing.T) {
	for i, x := range []struct {
		n, d int
		want api.Vec
	}{
		{81, 80, api.Vec{-4, 4, -1}}, {17, 34, api.Vec{-1}}, {1, 1, api.Vec{}}, {30030, 1, api.Vec{1, 1, 1, 1, 1, 1}}, {1, 30030, api.Vec{-1, -1, -1, -1, -1, -1}},
		{1 << 29, 1, api.Vec{29}}, {1, 1 << 29, api.Vec{-29}}, {387420489, 244140625, api.Vec{0, 18, -12}}, {1000000000, 1, api.Vec{9, 0, 9}}, {1, 1000000000, api.Vec{-9, 0, -9}},
		{1000000000, 1000000000, api.Vec{}}, {999999937, 999999937, api.Vec{}}, {282475249, 815730721, api.Vec{0, 0, 0, 10, 0, -8}}, {214358881, 1, api.Vec{0, 0, 0, 0, 8}},
		{499999993 * 2, 499999993, api.Vec{1}}, {17 * 19 * 4, 19 * 17 * 3, api.Vec{2, -1}}, {289 * 9, 289 * 8, api.Vec{-3, 2}},
	} {
		v, e := pitch.Ratio(x.n, x.d)
		expect(t, fmt.Sprint("case ", i), v, e, x.want)
	}
	for _, x := range [][2]int{{17, 16}, {16, 17}, {17, 1}, {1, 17}, {289, 17}, {17, 289}, {17, 19}, {19, 17}, {34, 51 * 17}, {999999937, 1}, {1, 999999937}, {999999937, 999999929}, {23 * 29, 23 * 31}} {
		v, e := pitch.Ratio(x[0], x[1])
		refused(t, fmt.Sprint("Ratio of ", x), v, e, api.ErrKind)
	}
}

func TestRatioOfOtherNumbers(t *testing.T) {
	for _, bad := range []int{0, -1, -2, -1000000000, 1000000001, 1 << 30, 1 << 32, 1<<32 + 1, math.MaxInt, math.MinInt} {
		for _, good := range []int{1, 2, 17, 1000000000, bad} {
			v, e := pitch.Ratio(bad, good)
			refused(t, fmt.Sprint("Ratio of ", bad, good), v, e, api.ErrArg)
			v, e = pitch.Ratio(good, bad)
			refused(t, fmt.Sprint("Ratio of ", good, bad), v, e, api.ErrArg)
		}
	}
}

// TestRatioOfSmallNumbers checks all ratios of small numbers: in lowest terms, either they have no other primes, or there is no interval.
func TestRatioOfSmallNumbers(t *testing.T) {
	for n := 1; n <= 240; n++ {
		for d := 1; d <= 240; d++ {
			v, e := pitch.Ratio(n, d)
			q := big.NewRat(int64(n), int64(d))
			rest := new(big.Int).Mul(q.Num(), q.Denom())
			for _, prime := range primes {
				for k := 8; k > 0; k-- { // 240 is less than 2 to the 8
					if m := new(big.Int).Mod(rest, big.NewInt(int64(prime))); m.Sign() == 0 {
						rest.Div(rest, big.NewInt(int64(prime)))
					}
				}
			}
			if rest.Cmp(big.NewInt(1)) != 0 {
				refused(t, fmt.Sprint("Ratio of ", n, d), v, e, api.ErrKind)
				continue
			}
			above, below := parts(v)
			if e != api.OK || !pitch.Interval(v) || above.Cmp(q.Num()) != 0 || below.Cmp(q.Denom()) != 0 {
				t.Errorf("Ratio of %d and %d: %v, %v", n, d, v, e)
			}
		}
	}
}

func TestFraction(t *testing.T) {
	for _, v := range intervals() {
		n, d, e := pitch.Fraction(v)
		above, below := parts(v)
		if e != api.OK || !natural.Valid(n) || !natural.Valid(d) || toBig(n).Cmp(above) != 0 || toBig(d).Cmp(below) != 0 {
			t.Errorf("Fraction of %v: %v, %v, %v", v, toBig(n), toBig(d), e)
		}
	}
	for v, want := range map[api.Vec][2]int64{{-4, 4, -1}: {81, 80}, {}: {1, 1}, {1}: {2, 1}, {0, 0, 0, 0, 0, -1}: {1, 13}, {-15, 8, 1}: {32805, 32768}} {
		n, d, e := pitch.Fraction(v)
		if toBig(n).Cmp(big.NewInt(want[0])) != 0 || toBig(d).Cmp(big.NewInt(want[1])) != 0 || e != api.OK {
			t.Errorf("Fraction of %v: %v, %v, %v", v, n, d, e)
		}
	}
	for _, v := range outside(whole) {
		n, d, e := pitch.Fraction(v)
		if len(n) != 0 || len(d) != 0 || e != api.ErrArg {
			t.Errorf("Fraction of %v: %v, %v, %v", v, n, d, e)
		}
	}
}
