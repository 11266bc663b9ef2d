package rational_test

import (
	"math/big"
	"testing"

	"schisma/api"
	"schisma/rational"
)

// The tests of this file check B6 and B7, and with them P2.6 and P2.7.

func TestNear(t *testing.T) {
	for _, x := range []struct {
		a    api.Rat
		most int
		want api.Rat
	}{
		{of(584963, 1000000), 12, of(7, 12)},
		{of(584963, 1000000), 41, of(24, 41)},
		{of(584963, 1000000), 53, of(31, 53)},
		{of(62831853, 20000000), 6, of(19, 6)},
		{of(62831853, 20000000), 7, of(22, 7)},
		{of(62831853, 20000000), 112, of(333, 106)},
		{of(62831853, 20000000), 113, of(355, 113)},
		{of(-62831853, 20000000), 113, of(-355, 113)},
		// Of two with the same denominator, the lesser one.
		{of(1, 2), 1, of(0, 1)},
		{of(-1, 2), 1, of(-1, 1)},
		{of(5, 2), 1, of(2, 1)},
		{of(-5, 2), 1, of(-3, 1)},
		{of(most-1, 2), 1, of(most/2-1, 1)}, // lowest terms: most - 1 is odd
		{of(1-most, 2), 1, of(-most/2, 1)},
		// Of two with different denominators, the one with the lesser denominator, on either side.
		{of(1, 4), 2, of(0, 1)},
		{of(3, 4), 2, of(1, 1)},
		{of(-1, 4), 2, of(0, 1)},
		{of(-3, 4), 2, of(-1, 1)},
		{of(5, 12), 3, of(1, 2)},
		{of(7, 12), 3, of(1, 2)},
		// What is near enough is itself.
		{of(0, 1), 1, of(0, 1)},
		{of(most, 1), 1, of(most, 1)},
		{of(-most, 1), most, of(-most, 1)},
		{of(7, 12), 12, of(7, 12)},
		{of(most-1, most), most, of(most-1, most)},
		{of(1, most), most, of(1, most)},
		// Many steps to one side.
		{of(1, most), most - 1, of(1, most-1)},
		{of(-1, most), most - 1, of(-1, most-1)},
		{of(most-1, most), most - 1, of(most-2, most-1)},
		{of(1, most), most / 2, of(0, 1)},
		{of(1, most), most/2 + 1, of(1, most/2+1)},
		{of(most, most-1), most - 2, of(most-1, most-2)},
	} {
		if got, e := rational.Near(x.a, x.most); got != x.want || e != api.OK {
			t.Errorf("Near of %v and %d: %v, %v; want %v", x.a, x.most, got, e, x.want)
		}
	}
}

// nearest returns what Near is to return, as a comparison of all numbers with a denominator up to top tells.
func nearest(a api.Rat, top int) api.Rat {
	best, least := api.Rat{}, new(big.Rat)
	for d := 1; d <= top; d++ {
		below := must(rational.Floor(a)) * d
		for n := below; n <= below+d; n++ { // from the least numerator on, so that of two the lesser one is found first
			b := big.NewRat(int64(n), int64(d))
			distance := new(big.Rat).Sub(b, toBig(a))
			distance.Abs(distance)
			if best.D == 0 || distance.Cmp(least) < 0 {
				best, least = must(rational.Make(n, d)), distance
			}
		}
	}
	return best
}

func TestP2_6NearestOfAll(t *testing.T) {
	list := small(12)
	r := source()
	for _, top := range []int{60, 900, most} {
		for range 25 {
			list = append(list, draw(r, top))
		}
	}
	for _, a := range list {
		for top := 1; top <= 9; top++ {
			if got, e := rational.Near(a, top); got != nearest(a, top) || e != api.OK {
				t.Errorf("Near of %v and %d: %v, %v; want %v", a, top, got, e, nearest(a, top))
			}
		}
	}
}

// neighbour returns the number that follows p on the side of a among all numbers with a denominator of at most top.
func neighbour(p, a api.Rat, top int) *big.Rat {
	side := int64(toBig(a).Cmp(toBig(p))) // the neighbour n / d has n * p.D - p.N * d = side
	d := new(big.Int).ModInverse(big.NewInt(int64(p.N)), big.NewInt(int64(p.D)))
	if p.D == 1 {
		d = new(big.Int)
	}
	d.Mul(d, big.NewInt(-side))
	// The greatest one up to top that has this remainder.
	rest := new(big.Int).Mod(new(big.Int).Sub(big.NewInt(int64(top)), d), big.NewInt(int64(p.D)))
	d.Sub(big.NewInt(int64(top)), rest)
	n := new(big.Int).Mul(d, big.NewInt(int64(p.N)))
	n.Add(n, big.NewInt(side)).Quo(n, big.NewInt(int64(p.D)))
	return new(big.Rat).SetFrac(n, d)
}

// TestP2_6NearestOfMany proves each result with its neighbour: nothing lies between the two, but a does.
func TestP2_6NearestOfMany(t *testing.T) {
	r := source()
	for _, a := range numbers() {
		for range 100 {
			top := r.IntN(most>>r.IntN(30)) + 1
			got, e := rational.Near(a, top)
			if e != api.OK || !rational.Valid(got) || got.D > top || max(got.N, -got.N) > max(a.N, -a.N) {
				t.Fatalf("Near of %v and %d: %v, %v", a, top, got, e)
			}
			if got == a {
				continue
			}
			if a.D <= top {
				t.Fatalf("Near of %v and %d: %v", a, top, got)
			}
			other := neighbour(got, a, top)
			if side := toBig(a).Cmp(toBig(got)); other.Cmp(toBig(a)) != side {
				t.Fatalf("Near of %v and %d: %v, but %v lies between", a, top, got, other)
			}
			distance := new(big.Rat).Sub(toBig(got), toBig(a))
			beyond := new(big.Rat).Sub(other, toBig(a))
			order := distance.Abs(distance).Cmp(beyond.Abs(beyond))
			lesser := int64(got.D) < other.Denom().Int64() || int64(got.D) == other.Denom().Int64() && toBig(got).Cmp(other) < 0
			if order > 0 || order == 0 && !lesser {
				t.Fatalf("Near of %v and %d: %v, but there is %v", a, top, got, other)
			}
		}
	}
}

// TestNearInTheMiddle checks numbers that lie in the middle between two neighbours, or next to it.
func TestNearInTheMiddle(t *testing.T) {
	for _, pair := range [][2]api.Rat{
		{of(0, 1), of(1, 1)}, {of(0, 1), of(1, 2)}, {of(1, 2), of(1, 1)}, {of(1, 2), of(3, 5)}, {of(7, 12), of(24, 41)},
		{of(-3, 2), of(-1, 1)}, {of(-2, 1), of(-3, 2)}, {of(-1, 1), of(0, 1)}, {of(1, 100), of(1, 99)}, {of(99, 100), of(100, 101)},
	} {
		low, high := pair[0], pair[1]
		top := max(low.D, high.D)
		middle := must(rational.Div(must(rational.Add(low, high)), of(2, 1)))
		little := of(1, middle.D*1000)
		want := low
		if high.D < low.D {
			want = high
		}
		for a, want := range map[api.Rat]api.Rat{
			middle:                             want,
			must(rational.Add(middle, little)): high,
			must(rational.Sub(middle, little)): low,
		} {
			if got, e := rational.Near(a, top); got != want || e != api.OK {
				t.Errorf("Near of %v and %d: %v, %v; want %v", a, top, got, e, want)
			}
		}
	}
}

func TestSimple(t *testing.T) {
	for _, x := range []struct{ low, high, want api.Rat }{
		{of(29, 50), of(59, 100), of(7, 12)},
		{of(-59, 100), of(-29, 50), of(-7, 12)},
		{of(-5, 2), of(-4, 3), of(-2, 1)},
		// Of several with the same denominator, the one next to 0.
		{of(4, 3), of(9, 2), of(2, 1)},
		{of(-9, 2), of(-4, 3), of(-2, 1)},
		{of(2, 1), of(5, 1), of(2, 1)},
		{of(-5, 1), of(-2, 1), of(-2, 1)},
		{of(-1, 1), of(1, 1), of(0, 1)},
		{of(-7, 2), of(5, 3), of(0, 1)},
		{of(-most, 1), of(most, 1), of(0, 1)},
		{of(1, most), of(most, 1), of(1, 1)},
		{of(-most, 1), of(-1, most), of(-1, 1)},
		// Both ends are included.
		{of(0, 1), of(most, 1), of(0, 1)},
		{of(-most, 1), of(0, 1), of(0, 1)},
		{of(1, 3), of(1, 2), of(1, 2)},
		{of(1, 2), of(2, 3), of(1, 2)},
		{of(2, 3), of(1, 1), of(1, 1)},
		{of(1, 1), of(3, 2), of(1, 1)},
		{of(-1, 2), of(-1, 3), of(-1, 2)},
		{of(7, 12), of(24, 41), of(7, 12)},
		{of(24, 41), of(17, 29), of(17, 29)},
		// The narrowest and the longest ways.
		{of(most-2, most-1), of(most-1, most), of(most-2, most-1)},
		{of(1, most), of(1, most-1), of(1, most-1)},
		{of(-1, most-1), of(-1, most), of(-1, most-1)},
		{of(most-1, 1), of(most, 1), of(most-1, 1)},
		{of(267914296, 433494437), of(267914296, 433494437), of(267914296, 433494437)},
		{of(267914296, 433494437), of(165580141, 267914296), of(165580141, 267914296)},
	} {
		if got, e := rational.Simple(x.low, x.high); got != x.want || e != api.OK {
			t.Errorf("Simple of %v and %v: %v, %v; want %v", x.low, x.high, got, e, x.want)
		}
	}
	for _, a := range numbers() {
		if got, e := rational.Simple(a, a); got != a || e != api.OK {
			t.Errorf("Simple of %v and itself: %v, %v", a, got, e)
		}
	}
}

// simplest returns what Simple is to return, as the first denominator with a number from low to high tells.
func simplest(low, high api.Rat) api.Rat {
	for d := 1; ; d++ {
		best, found := 0, false
		for n := low.N*d/low.D - 1; n*high.D <= high.N*d; n++ {
			if n*low.D >= low.N*d && (!found || max(n, -n) < max(best, -best)) {
				best, found = n, true
			}
		}
		if found {
			return of(best, d)
		}
	}
}

func TestP2_7SimplestOfAll(t *testing.T) {
	list := sorted(small(9))
	for i, low := range list {
		for _, high := range list[i:] {
			if got, e := rational.Simple(low, high); got != simplest(low, high) || e != api.OK {
				t.Errorf("Simple of %v and %v: %v, %v; want %v", low, high, got, e, simplest(low, high))
			}
		}
	}
	for _, a := range sorted(small(60)) {
		low, high := must(rational.Sub(a, of(1, 700))), must(rational.Add(a, of(1, 900)))
		if got, e := rational.Simple(low, high); got != simplest(low, high) || e != api.OK {
			t.Errorf("Simple of %v and %v: %v, %v; want %v", low, high, got, e, simplest(low, high))
		}
	}
}

// parents returns the two numbers with lesser denominators between which p, with a denominator above 1, is the simplest one.
func parents(p api.Rat) (low, high *big.Rat) {
	n, d := big.NewInt(int64(p.N)), big.NewInt(int64(p.D))
	below := new(big.Int).ModInverse(n, d) // n * below - d * above = 1
	above := new(big.Int).Mul(n, below)
	above.Sub(above, big.NewInt(1)).Quo(above, d)
	return new(big.Rat).SetFrac(above, below), new(big.Rat).SetFrac(new(big.Int).Sub(n, above), new(big.Int).Sub(d, below))
}

// TestP2_7SimplestOfMany proves each result with its parents: what lies between them has at least its denominator and its numerator.
func TestP2_7SimplestOfMany(t *testing.T) {
	r := source()
	check := func(low, high api.Rat) {
		got, e := rational.Simple(low, high)
		if e != api.OK || !rational.Valid(got) || toBig(got).Cmp(toBig(low)) < 0 || toBig(got).Cmp(toBig(high)) > 0 {
			t.Fatalf("Simple of %v and %v: %v, %v", low, high, got, e)
		}
		if got.D == 1 {
			next := got // the integer next to it on the way to 0
			next.N -= toBig(got).Sign()
			if got.N != 0 && toBig(next).Cmp(toBig(low)) >= 0 && toBig(next).Cmp(toBig(high)) <= 0 {
				t.Fatalf("Simple of %v and %v: %v, but there is %v", low, high, got, next)
			}
			return
		}
		if left, right := parents(got); left.Cmp(toBig(low)) >= 0 || right.Cmp(toBig(high)) <= 0 {
			t.Fatalf("Simple of %v and %v: %v, but there is %v or %v", low, high, got, left, right)
		}
	}
	list := sorted(numbers())
	for i, low := range list {
		for _, high := range list[i:] {
			check(low, high)
		}
	}
	for range 20000 {
		a := draw(r, most>>r.IntN(20))
		wide := must(rational.Make(a.N+r.IntN(most-max(a.N, -a.N)+1)>>r.IntN(30), a.D))
		check(a, wide)
		pair := sorted([]api.Rat{a, must(rational.Near(a, r.IntN(a.D)+1))})
		check(pair[0], pair[len(pair)-1])
	}
}

// TestNearAndSimpleAgree checks that what is as near as the nearest number is not simpler, and that nothing simple is nearer.
func TestNearAndSimpleAgree(t *testing.T) {
	for _, a := range small(40) {
		for top := 1; top <= 6; top++ {
			near := must(rational.Near(a, top))
			distance := must(rational.Sub(a, near))
			distance.N = max(distance.N, -distance.N)
			low, high := must(rational.Sub(a, distance)), must(rational.Add(a, distance))
			simple := must(rational.Simple(low, high))
			if simple != low && simple != high || simple.D != near.D {
				t.Errorf("near %v with at most %d: %v, but %v is nearer or simpler", a, top, near, simple)
			}
		}
	}
}
