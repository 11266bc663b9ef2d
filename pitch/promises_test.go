package pitch_test

import (
	"fmt"
	"math/big"
	"testing"

	"schisma/api"
	"schisma/pitch"
)

// triples calls each for three pitches, again and again; some of their products are no pitches.
func triples(each func(a, b, c api.Pitch)) {
	r := source()
	for _, most := range []int{3, 24, 200, 290, part} {
		for range 400 {
			each(draw(r, most), draw(r, most), draw(r, most))
		}
	}
	for _, x := range append(close48(), close1152()...) {
		a, b := halves(x)
		for range 20 {
			each(a, b, draw(r, 300))
		}
	}
}

// TestP3_2Group checks that Mul is commutative and associative, that the unison and the inverses are what they are in a group, and that Div undoes Mul.
func TestP3_2Group(t *testing.T) {
	triples(func(a, b, c api.Pitch) {
		ab, e := pitch.Mul(a, b)
		if ba, f := pitch.Mul(b, a); ba != ab || f != e {
			t.Errorf("Mul of %v and %v: %v, %v; exchanged %v, %v", a, b, ab, e, ba, f)
		}
		if e == api.OK {
			back, f := pitch.Div(ab, b)
			expect(t, fmt.Sprint("Div of the product of ", a, b), back, f, a)
		}
		if q, e := pitch.Div(a, b); e == api.OK {
			back, f := pitch.Mul(q, b)
			expect(t, fmt.Sprint("Mul of the quotient of ", a, b), back, f, a)
		}
		bc, f := pitch.Mul(b, c)
		if e == api.OK && f == api.OK {
			left, e := pitch.Mul(ab, c)
			right, f := pitch.Mul(a, bc)
			if left != right || e != f {
				t.Errorf("products of %v, %v and %v: %v, %v; %v, %v", a, b, c, left, e, right, f)
			}
		}
	})
	for _, a := range pitches() {
		got, e := pitch.Mul(a, api.Pitch{})
		expect(t, fmt.Sprint("Mul with the unison of ", a), got, e, a)
		inverse, e := pitch.Div(api.Pitch{}, a)
		expect(t, fmt.Sprint("Div of the unison by ", a), inverse, e, negative(a))
		got, e = pitch.Mul(a, inverse)
		expect(t, fmt.Sprint("Mul with its inverse of ", a), got, e, api.Pitch{})
	}
}

// TestP3_4Translation checks that multiplying both sides keeps the order, and inverting both reverses it.
func TestP3_4Translation(t *testing.T) {
	kept := 0
	triples(func(a, b, c api.Pitch) {
		n := compare(a, b)
		ac, e := pitch.Mul(a, c)
		bc, f := pitch.Mul(b, c)
		if e == api.OK && f == api.OK {
			kept++
			got, e := pitch.Cmp(ac, bc)
			expect(t, fmt.Sprint("Cmp of ", a, b, " both times ", c), got, e, n)
		}
		got, e := pitch.Cmp(negative(a), negative(b))
		expect(t, fmt.Sprint("Cmp of the inverses of ", a, b), got, e, -n)
	})
	if kept < 500 {
		t.Errorf("only %d products were compared", kept)
	}
}

// TestP3_5Powers checks that powers keep or reverse the order as their exponents say.
func TestP3_5Powers(t *testing.T) {
	kept := 0
	triples(func(a, b, _ api.Pitch) {
		n := compare(a, b)
		for _, x := range [][2]int{{1, 1}, {2, 1}, {3, 1}, {7, 1}, {1, 2}, {1, 3}, {2, 3}, {11, 12}, {12, 12}, {-1, 1}, {-3, 2}, {0, 1}} {
			powerA, e := pitch.Power(a, x[0], x[1])
			powerB, f := pitch.Power(b, x[0], x[1])
			if e != api.OK || f != api.OK {
				continue
			}
			want := n
			switch {
			case x[0] < 0:
				want = -n
			case x[0] == 0:
				want = 0
			}
			kept++
			got, e := pitch.Cmp(powerA, powerB)
			expect(t, fmt.Sprint("Cmp of the powers ", x, " of ", a, b), got, e, want)
		}
	})
	if kept < 5000 {
		t.Errorf("only %d powers were compared", kept)
	}
}

// TestP3_5Roots checks that roots are undone by powers, and powers by roots.
func TestP3_5Roots(t *testing.T) {
	for _, p := range append(pitches(), api.Pitch{12, -24, 576, -576, 36, 0}, api.Pitch{60, 120, 240, -60, 480, -540}) {
		for d := 1; d <= 12; d++ {
			if root, e := pitch.Power(p, 1, d); e == api.OK {
				back, e := pitch.Power(root, d, 1)
				expect(t, fmt.Sprint("the power ", d, " of the root of ", p), back, e, p)
			}
			if power, e := pitch.Power(p, d, 1); e == api.OK {
				back, e := pitch.Power(power, 1, d)
				expect(t, fmt.Sprint("the root ", d, " of the power of ", p), back, e, p)
			}
			back, e := pitch.Power(p, d, d)
			expect(t, fmt.Sprint("the power ", d, "/", d, " of ", p), back, e, p)
		}
	}
}

// TestP3_5Products checks that powers are repeated products.
func TestP3_5Products(t *testing.T) {
	for _, p := range pitches() {
		product := api.Pitch{}
		wrong := api.OK
		for n := range 60 {
			got, e := pitch.Power(p, n, 1)
			if got != product || e != wrong {
				t.Errorf("Power of %v, %d: %v, %v; want %v, %v", p, n, got, e, product, wrong)
			}
			product, wrong = pitch.Mul(product, p)
			if wrong != api.OK {
				got, e := pitch.Power(p, n+1, 1)
				refused(t, fmt.Sprint("Power of ", p, n+1), got, e, api.ErrRange)
				break
			}
		}
	}
}

// TestP3_6FractionOfARatio checks that the fraction of a ratio is the ratio, in lowest terms.
func TestP3_6FractionOfARatio(t *testing.T) {
	smooth := []int{1, 2, 3, 4, 5, 6, 7, 8, 9, 10, 11, 12, 13, 16, 80, 81, 125, 128, 243, 256, 30030, 32768, 32805, 1 << 29, 387420489, 815730721, 1000000000}
	for _, n := range smooth {
		for _, d := range smooth {
			for _, k := range []int{1, 17, 23} {
				if k*max(n, d) > api.MaxRat {
					continue
				}
				v := must(pitch.Ratio(k*n, k*d))
				above, below, e := pitch.Fraction(v)
				want := big.NewRat(int64(n), int64(d))
				if e != api.OK || toBig(above).Cmp(want.Num()) != 0 || toBig(below).Cmp(want.Denom()) != 0 {
					t.Errorf("Fraction of the ratio of %d and %d: %v, %v, %v", k*n, k*d, toBig(above), toBig(below), e)
				}
			}
		}
	}
}

// TestP3_6RatioOfAFraction checks that the ratio of a fraction is the interval, if the fraction is one of small numbers.
func TestP3_6RatioOfAFraction(t *testing.T) {
	for _, v := range intervals() {
		n, d, _ := pitch.Fraction(v)
		if above, below := toBig(n), toBig(d); above.Cmp(big.NewInt(api.MaxRat)) <= 0 && below.Cmp(big.NewInt(api.MaxRat)) <= 0 {
			back, e := pitch.Ratio(int(above.Int64()), int(below.Int64()))
			expect(t, fmt.Sprint("the ratio of the fraction of ", v), back, e, v)
		}
	}
}

// TestP3_6Order checks that intervals are ordered as their fractions.
func TestP3_6Order(t *testing.T) {
	list := intervals()
	for _, x := range close48() {
		a, b := halves(x)
		list = append(list, api.Vec(a), api.Vec(b))
	}
	fractions := make([]*big.Rat, len(list))
	for i, v := range list {
		n, d, _ := pitch.Fraction(v)
		fractions[i] = new(big.Rat).SetFrac(toBig(n), toBig(d))
	}
	for i, v := range list {
		for k, w := range list[:i+1] {
			n, e := pitch.Cmp(must(pitch.Of(v)), must(pitch.Of(w)))
			expect(t, fmt.Sprint("Cmp of ", v, w), n, e, fractions[i].Cmp(fractions[k]))
		}
	}
}
