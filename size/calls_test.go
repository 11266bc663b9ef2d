package size_test

import (
	"fmt"
	"math"
	"math/big"
	"slices"
	"testing"

	"schisma/api"
	"schisma/size"
)

// The tests of this file check P4.1, from D1 to D7.

func TestValid(t *testing.T) {
	for _, a := range sizes() {
		if !size.Valid(a) {
			t.Errorf("%v is said to be no size", a)
		}
	}
	for _, a := range invalid() {
		if size.Valid(a) {
			t.Errorf("%v is said to be a size", a)
		}
	}
}

func TestOf(t *testing.T) {
	for _, p := range pitches() {
		got, e := size.Of(p)
		expect(t, fmt.Sprint("Of of ", p), got, e, enclosure(p))
	}
	for _, p := range noPitches() {
		got, e := size.Of(p)
		refused(t, fmt.Sprint("Of of ", p), got, e, api.ErrArg)
	}
}

func TestOfExamples(t *testing.T) {
	for i, x := range []struct {
		p    api.Pitch
		want api.Size
	}{
		{api.Pitch{-12, 12}, of(7019550000, 7019550012)},
		{api.Pitch{-24, 0, 12}, of(3863137128, 3863137140)},
		{api.Pitch{-48, 48, -12}, of(215062860, 215062920)},
		{api.Pitch{}, of(0, 0)},
		{api.Pitch{12}, of(api.Octave, api.Octave)},
		{api.Pitch{576, 576, 576, 576, 576, 576}, of(576*14874116852, 576*14874116857)},
		{api.Pitch{-576, -576, -576, -576, -576, -576}, of(-576*14874116857, -576*14874116852)},
	} {
		got, e := size.Of(x.p)
		expect(t, fmt.Sprint("case ", i), got, e, x.want)
	}
}

// TestLogarithms checks the table of the document: the logarithm of a prime with a twelfth as its exponent, and, with the opposite ends, with minus a twelfth.
func TestLogarithms(t *testing.T) {
	for i, want := range []api.Size{
		of(1000000000, 1000000000), of(1584962500, 1584962501), of(2321928094, 2321928095),
		of(2807354922, 2807354923), of(3459431618, 3459431619), of(3700439718, 3700439719),
	} {
		var p, q api.Pitch
		p[i], q[i] = 1, -1
		got, e := size.Of(p)
		expect(t, fmt.Sprint("Of of ", p), got, e, want)
		got, e = size.Of(q)
		expect(t, fmt.Sprint("Of of ", q), got, e, opposite(want))
		for n := range part + 1 {
			p[i], q[i] = n, -n
			got, e = size.Of(p)
			expect(t, fmt.Sprint("Of of ", p), got, e, of(n*want.Lo, n*want.Hi))
			got, e = size.Of(q)
			expect(t, fmt.Sprint("Of of ", q), got, e, of(-n*want.Hi, -n*want.Lo))
		}
	}
}

func TestAddAndSub(t *testing.T) {
	list := sizes()
	for _, a := range list {
		for _, b := range list {
			got, e := size.Add(a, b)
			answers(t, fmt.Sprint("Add of ", a, b), got, e, of(a.Lo+b.Lo, a.Hi+b.Hi))
			got, e = size.Sub(a, b)
			answers(t, fmt.Sprint("Sub of ", a, b), got, e, of(a.Lo-b.Hi, a.Hi-b.Lo))
		}
	}
}

// TestAddAndSubAtTheBounds checks sums and differences of which just one end reaches a bound, or lies beyond it.
func TestAddAndSubAtTheBounds(t *testing.T) {
	for _, x := range []struct {
		a, b, want api.Size
		e          api.Errno
	}{
		{of(0, most), of(0, 0), of(0, most), api.OK},
		{of(0, most-1), of(0, 1), of(0, most), api.OK},
		{of(0, most), of(-1, 0), of(-1, most), api.OK},
		{of(most, most), of(-most, 0), of(0, most), api.OK},
		{of(0, most), of(0, 1), of(0, 0), api.ErrRange},
		{of(most, most), of(1, 1), of(0, 0), api.ErrRange},
		{of(most, most), of(most, most), of(0, 0), api.ErrRange},
		{of(-most, most), of(-most, most), of(0, 0), api.ErrRange},
	} {
		got, e := size.Add(x.a, x.b)
		if got != x.want || e != x.e {
			t.Errorf("Add of %v and %v: %v, %v", x.a, x.b, got, e)
		}
		got, e = size.Add(opposite(x.a), opposite(x.b))
		if got != opposite(x.want) || e != x.e {
			t.Errorf("Add of %v and %v: %v, %v", opposite(x.a), opposite(x.b), got, e)
		}
		got, e = size.Sub(x.a, opposite(x.b))
		if got != x.want || e != x.e {
			t.Errorf("Sub of %v and %v: %v, %v", x.a, opposite(x.b), got, e)
		}
		got, e = size.Sub(opposite(x.a), x.b)
		if got != opposite(x.want) || e != x.e {
			t.Errorf("Sub of %v and %v: %v, %v", opposite(x.a), x.b, got, e)
		}
	}
}

// multiple returns n times a, if that is a size, by the integers of the library.
func multiple(a api.Size, n int) (api.Size, api.Errno) {
	low := new(big.Int).Mul(big.NewInt(int64(a.Lo)), big.NewInt(int64(n)))
	high := new(big.Int).Mul(big.NewInt(int64(a.Hi)), big.NewInt(int64(n)))
	if low.Cmp(high) > 0 {
		low, high = high, low
	}
	if low.Cmp(big.NewInt(-most)) < 0 || high.Cmp(big.NewInt(most)) > 0 {
		return api.Size{}, api.ErrRange
	}
	return of(int(low.Int64()), int(high.Int64())), api.OK
}

func TestTimes(t *testing.T) {
	factors := append(grains(), 4, 5, 12, -12, 1000, 1<<32, -1<<32, 1<<44, 92233720369, most+1, -most-1, 1<<62, -1<<62, math.MaxInt, math.MaxInt-1, math.MinInt, math.MinInt+1)
	for _, a := range sizes() {
		for _, n := range factors {
			got, e := size.Times(a, n)
			if want, wrong := multiple(a, n); got != want || e != wrong {
				t.Errorf("Times of %v, %d: %v, %v; want %v, %v", a, n, got, e, want, wrong)
			}
		}
		// Where each end reaches its bound, and lies beyond it.
		for _, end := range []int{a.Lo, a.Hi} {
			if end == 0 {
				continue
			}
			for n := most/end - 2; n <= most/end+2; n++ {
				for _, factor := range []int{n, -n} {
					got, e := size.Times(a, factor)
					if want, wrong := multiple(a, factor); got != want || e != wrong {
						t.Errorf("Times of %v, %d: %v, %v; want %v, %v", a, factor, got, e, want, wrong)
					}
				}
			}
		}
	}
}

func TestTimesExamples(t *testing.T) {
	got, e := size.Times(of(1, 3), -2)
	expect(t, "Times of 1 to 3, -2", got, e, of(-6, -2))
	got, e = size.Times(of(0, 1), most+1)
	refused(t, "Times of 0 to 1, 10^14 + 1", got, e, api.ErrRange)
	got, e = size.Times(of(0, 1), most)
	expect(t, "Times of 0 to 1, 10^14", got, e, of(0, most))
	for _, n := range []int{math.MinInt, math.MaxInt} {
		got, e = size.Times(of(0, 0), n)
		expect(t, "Times of 0 to 0", got, e, of(0, 0))
		for _, a := range []api.Size{of(0, 1), of(-1, 0), of(1, 1), of(-1, -1), of(2, 2), of(0, 1<<32), of(1<<32, 1<<32), of(-most, most)} {
			got, e = size.Times(a, n)
			refused(t, fmt.Sprint("Times of ", a, n), got, e, api.ErrRange)
		}
	}
}

func TestCmp(t *testing.T) {
	for _, x := range []struct {
		a, b api.Size
		want int
	}{
		{of(1, 3), of(4, 9), -1}, {of(1, 3), of(3, 9), 0}, {of(1, 3), of(2, 9), 0}, {of(1, 3), of(1, 3), 0}, {of(1, 9), of(3, 4), 0},
		{of(3, 3), of(3, 3), 0}, {of(3, 3), of(4, 4), -1}, {of(-most, most), of(most, most), 0}, {of(-most, -most), of(most, most), -1},
		{of(-most, most-1), of(most, most), -1}, {of(-3, -1), of(1, 3), -1}, {of(-3, 0), of(0, 3), 0},
	} {
		n, e := size.Cmp(x.a, x.b)
		expect(t, fmt.Sprint("Cmp of ", x.a, x.b), n, e, x.want)
		n, e = size.Cmp(x.b, x.a)
		expect(t, fmt.Sprint("Cmp of ", x.b, x.a), n, e, -x.want)
	}
}

func TestWithin(t *testing.T) {
	for _, x := range []struct {
		a         api.Size
		low, high int
		want      int
	}{
		{of(1, 3), 1, 3, 1}, {of(1, 3), 0, 4, 1}, {of(1, 3), 2, 3, 0}, {of(1, 3), 1, 2, 0}, {of(1, 3), 2, 2, 0}, {of(1, 3), 3, 9, 0}, {of(1, 3), -9, 1, 0},
		{of(1, 3), 4, 9, -1}, {of(1, 3), -9, 0, -1}, {of(1, 3), 4, 4, -1}, {of(1, 3), 0, 0, -1}, {of(2, 2), 2, 2, 1}, {of(2, 2), 3, 3, -1}, {of(0, 0), 0, 0, 1},
		{of(1, 3), math.MinInt, math.MaxInt, 1}, {of(-most, most), math.MinInt, math.MaxInt, 1}, {of(1, 3), math.MinInt, 2, 0}, {of(1, 3), 2, math.MaxInt, 0},
		{of(1, 3), math.MinInt, 3, 1}, {of(1, 3), 1, math.MaxInt, 1}, {of(1, 3), math.MinInt, 0, -1}, {of(1, 3), 4, math.MaxInt, -1},
		{of(-most, most), math.MinInt, math.MinInt, -1}, {of(-most, most), math.MaxInt, math.MaxInt, -1}, {of(-most, most), -most, most, 1},
		{of(-most, most), most + 1, most + 1, -1}, {of(-most, most), most, most + 1, 0}, {of(7019550000, 7019550012), 7019550000, 7019550011, 0},
	} {
		n, e := size.Within(x.a, x.low, x.high)
		expect(t, fmt.Sprint("Within of ", x.a, x.low, x.high), n, e, x.want)
		if x.low > math.MinInt {
			n, e = size.Within(opposite(x.a), -x.high, -x.low)
			expect(t, fmt.Sprint("Within of ", opposite(x.a), -x.high, -x.low), n, e, x.want)
		}
	}
}

func TestWithinOfNoRange(t *testing.T) {
	for _, a := range sizes() {
		for _, x := range [][2]int{{1, 0}, {0, -1}, {a.Hi, a.Hi - 1}, {a.Lo, a.Lo - 1}, {a.Hi + 1, a.Lo - 1}, {math.MaxInt, math.MinInt}, {0, math.MinInt}, {math.MaxInt, 0}, {math.MaxInt, math.MaxInt - 1}, {math.MinInt + 1, math.MinInt}} {
			n, e := size.Within(a, x[0], x[1])
			refused(t, fmt.Sprint("Within of ", a, x), n, e, api.ErrArg)
		}
	}
}

// TestSmallRanges checks Cmp, Within and Meet with all small sizes, by counting the numbers that are in them.
func TestSmallRanges(t *testing.T) {
	var list []api.Size
	for low := -3; low <= 3; low++ {
		for high := low; high <= 3; high++ {
			list = append(list, of(low, high))
		}
	}
	for _, a := range list {
		for _, b := range list {
			var common []int
			for n := a.Lo; n <= a.Hi; n++ {
				if b.Lo <= n && n <= b.Hi {
					common = append(common, n)
				}
			}
			within := 0
			switch len(common) {
			case 0:
				within = -1
			case a.Hi - a.Lo + 1:
				within = 1
			}
			n, e := size.Within(a, b.Lo, b.Hi)
			expect(t, fmt.Sprint("Within of ", a, b), n, e, within)
			meeting, e := size.Meet(a, b)
			order := compared(a, b)
			if len(common) == 0 {
				refused(t, fmt.Sprint("Meet of ", a, b), meeting, e, api.ErrNone)
				if order == 0 || order != map[bool]int{true: -1, false: 1}[a.Lo < b.Lo] {
					t.Errorf("Cmp of %v and %v: %d", a, b, order)
				}
				continue
			}
			expect(t, fmt.Sprint("Meet of ", a, b), meeting, e, of(slices.Min(common), slices.Max(common)))
			if order != 0 {
				t.Errorf("Cmp of %v and %v: %d", a, b, order)
			}
		}
	}
}

func TestMeet(t *testing.T) {
	for _, x := range []struct{ a, b, want api.Size }{
		{of(1, 3), of(3, 9), of(3, 3)}, {of(1, 3), of(2, 9), of(2, 3)}, {of(1, 9), of(3, 4), of(3, 4)}, {of(1, 3), of(1, 3), of(1, 3)},
		{of(-most, most), of(most, most), of(most, most)}, {of(-most, 0), of(0, most), of(0, 0)}, {of(-most, most), of(-most, most), of(-most, most)},
	} {
		got, e := size.Meet(x.a, x.b)
		expect(t, fmt.Sprint("Meet of ", x.a, x.b), got, e, x.want)
		got, e = size.Meet(x.b, x.a)
		expect(t, fmt.Sprint("Meet of ", x.b, x.a), got, e, x.want)
	}
	for _, x := range [][2]api.Size{{of(1, 3), of(4, 9)}, {of(-most, -1), of(0, most)}, {of(-most, -most), of(most, most)}, {of(0, 0), of(1, 1)}} {
		got, e := size.Meet(x[0], x[1])
		refused(t, fmt.Sprint("Meet of ", x), got, e, api.ErrNone)
		got, e = size.Meet(x[1], x[0])
		refused(t, fmt.Sprint("Meet of ", x, " exchanged"), got, e, api.ErrNone)
	}
}
