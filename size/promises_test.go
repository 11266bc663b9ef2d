package size_test

import (
	"fmt"
	"math"
	"testing"

	"schisma/api"
	"schisma/pitch"
	"schisma/size"
)

// pairs calls each for two pitches, again and again: near to each other, far apart, and at the bounds.
func pairs(each func(a, b api.Pitch)) {
	list := pitches()
	for _, a := range list {
		for _, b := range list {
			each(a, b)
		}
	}
	r := source()
	for range 3000 {
		a := exponents(r, 200)
		b := minus(a, exponents(r, 3))
		each(a, b)
	}
	for _, x := range close1152() {
		each(halves(x))
		for range 30 { // less than 30 semitones from each other
			a, b := halves(x)
			a[0] += number(r, 24)
			a[1] += r.IntN(2)
			each(a, b)
		}
	}
}

// triples calls each for three sizes, again and again.
func triples(each func(a, b, c api.Size)) {
	r := source()
	for _, top := range []int{4, 20, 1000, most} {
		for range 5000 {
			each(draw(r, top), draw(r, top), draw(r, top))
		}
	}
}

// TestP4_2Certain checks that the order of sizes without a common number is the exact one.
func TestP4_2Certain(t *testing.T) {
	certain, open := 0, 0
	pairs(func(a, b api.Pitch) {
		n := compared(measured(a), measured(b))
		if n == 0 {
			open++
			return
		}
		certain++
		order, e := pitch.Cmp(a, b)
		expect(t, fmt.Sprint("Cmp of ", a, b), order, e, n)
	})
	if certain < 10000 || open < 100 {
		t.Errorf("%d pairs are certain, %d are not", certain, open)
	}
}

// opposed reports whether some prime has exponents of opposite signs in a and b.
func opposed(a, b api.Pitch) bool {
	for i, e := range a {
		if e*b[i] < 0 {
			return true
		}
	}
	return false
}

// TestP4_3Products checks the sizes of products and quotients.
func TestP4_3Products(t *testing.T) {
	equal, wider := 0, 0
	pairs(func(a, b api.Pitch) {
		if product, e := pitch.Mul(a, b); e == api.OK {
			sum := must(size.Add(measured(a), measured(b)))
			got := measured(product)
			if !inside(got, sum) || got != sum && !opposed(a, b) {
				t.Errorf("the size of the product of %v and %v is %v, the sum %v", a, b, got, sum)
			}
			if got == sum {
				equal++
			} else {
				wider++
			}
		}
		if quotient, e := pitch.Div(a, b); e == api.OK {
			difference := must(size.Sub(measured(a), measured(b)))
			if got := measured(quotient); !inside(got, difference) {
				t.Errorf("the size of the quotient of %v and %v is %v, the difference %v", a, b, got, difference)
			}
		}
	})
	if equal < 100 || wider < 100 {
		t.Errorf("%d sums are those of the products, %d are wider", equal, wider)
	}
}

// TestP4_3Gaps checks gaps against quotients, of a pitch and itself, and with exchanged pitches.
func TestP4_3Gaps(t *testing.T) {
	quotients := 0
	pairs(func(a, b api.Pitch) {
		gap := must(size.Gap(a, b))
		if quotient, e := pitch.Div(a, b); e == api.OK {
			quotients++
			got, e := size.Of(quotient)
			expect(t, fmt.Sprint("Of of the quotient of ", a, b), got, e, gap)
		}
		back, e := size.Gap(b, a)
		expect(t, fmt.Sprint("Gap of ", b, a), back, e, opposite(gap))
		if difference := must(size.Sub(measured(a), measured(b))); !inside(gap, difference) {
			t.Errorf("the gap of %v and %v is %v, the difference %v", a, b, gap, difference)
		}
		same, e := size.Gap(a, a)
		expect(t, fmt.Sprint("Gap of ", a, a), same, e, of(0, 0))
	})
	if quotients < 1000 {
		t.Errorf("only %d quotients", quotients)
	}
}

// TestP4_4Sums checks Times with a sum of two numbers against the sum of both results.
func TestP4_4Sums(t *testing.T) {
	for _, a := range sizes() {
		for _, m := range []int{0, 1, 2, 3, 12, 1000, most / 7, most/2 + 1, most, most + 1, 1 << 61, math.MaxInt / 2} {
			for _, n := range []int{0, 1, 2, 5, most / 3, most / 2, most, math.MaxInt / 2} {
				sum, e := size.Times(a, m+n)
				x, f := size.Times(a, m)
				y, g := size.Times(a, n)
				if e == api.OK && (f != api.OK || g != api.OK) {
					t.Errorf("%v times %d and %d: %v, %v", a, m, n, f, g)
				}
				if f != api.OK || g != api.OK {
					continue
				}
				if z, f := size.Add(x, y); z != sum || f != e {
					t.Errorf("%v times %d + %d: %v, %v; %v, %v", a, m, n, sum, e, z, f)
				}
			}
		}
	}
}

// TestP4_4Opposites checks Times with -1 against the subtraction from 0.
func TestP4_4Opposites(t *testing.T) {
	for _, a := range sizes() {
		got, e := size.Times(a, -1)
		difference, f := size.Sub(of(0, 0), a)
		if got != difference || e != f || got != opposite(a) {
			t.Errorf("%v times -1: %v, %v; subtracted from 0: %v, %v", a, got, e, difference, f)
		}
	}
}

// TestP4_4Products checks Times with a product against Times with one factor after the other.
func TestP4_4Products(t *testing.T) {
	factors := []int{0, 1, -1, 2, -2, 3, 12, -1000, 10000, -123456, 1 << 20, -1 << 31}
	results := 0
	for _, a := range sizes() {
		for _, m := range factors {
			for _, n := range factors {
				x, e := size.Times(a, m)
				if e != api.OK {
					continue
				}
				y, e := size.Times(x, n)
				z, f := size.Times(a, m*n)
				if y != z || e != f {
					t.Errorf("%v times %d times %d: %v, %v; %v, %v", a, m, n, y, e, z, f)
				}
				results++
			}
		}
	}
	if results < 5000 {
		t.Errorf("only %d results", results)
	}
}

// TestP4_5Common checks Cmp and Meet against each other, and both with exchanged sizes.
func TestP4_5Common(t *testing.T) {
	check := func(a, b api.Size) {
		n := compared(a, b)
		common, e := size.Meet(a, b)
		if (n == 0) != (e == api.OK) || n != 0 && e != api.ErrNone {
			t.Errorf("Cmp of %v and %v: %d, Meet: %v", a, b, n, e)
		}
		if back, f := size.Meet(b, a); back != common || f != e {
			t.Errorf("Meet of %v and %v: %v, %v; exchanged: %v, %v", a, b, common, e, back, f)
		}
		if back := compared(b, a); back != -n {
			t.Errorf("Cmp of %v and %v: %d; exchanged: %d", a, b, n, back)
		}
		for _, x := range []int{a.Lo - 1, a.Lo, a.Lo + 1, a.Hi - 1, a.Hi, a.Hi + 1, b.Lo - 1, b.Lo, b.Lo + 1, b.Hi - 1, b.Hi, b.Hi + 1} {
			both := inside(of(x, x), a) && inside(of(x, x), b)
			if (e == api.OK && inside(of(x, x), common)) != both {
				t.Errorf("Meet of %v and %v: %v, %v; %d is in both: %v", a, b, common, e, x, both)
			}
		}
	}
	list := sizes()
	for _, a := range list {
		for _, b := range list {
			check(a, b)
		}
	}
	triples(func(a, b, _ api.Size) { check(a, b) })
}

// TestP4_5Transitive checks that what is below a second size, which is below a third one, is below that.
func TestP4_5Transitive(t *testing.T) {
	chains := 0
	check := func(a, b, c api.Size) {
		if compared(a, b) < 0 && compared(b, c) < 0 {
			chains++
			if compared(a, c) != -1 || compared(c, a) != 1 {
				t.Errorf("Cmp of %v and %v is not transitive by %v", a, c, b)
			}
		}
	}
	triples(check)
	for _, low := range grains() {
		for _, middle := range grains() {
			for _, high := range grains() {
				check(of(low, low), of(middle, middle), of(high, high))
			}
		}
	}
	if chains < 100 {
		t.Errorf("only %d chains", chains)
	}
}

// TestP4_6Surely checks ranges with a size that is contained in another one.
func TestP4_6Surely(t *testing.T) {
	count := map[int]int{}
	triples(func(a, b, c api.Size) {
		common, e := size.Meet(a, b)
		if e != api.OK {
			return
		}
		for _, whole := range []api.Size{a, b} {
			for _, x := range []api.Size{c, of(c.Lo, math.MaxInt), of(math.MinInt, c.Hi), of(whole.Lo, whole.Hi), of(whole.Hi+1, math.MaxInt)} {
				n := must(size.Within(whole, x.Lo, x.Hi))
				count[n]++
				if m := must(size.Within(common, x.Lo, x.Hi)); n != 0 && m != n {
					t.Errorf("Within of %v, %v: %d; of its part %v: %d", whole, x, n, common, m)
				}
			}
		}
	})
	if count[1] < 1000 || count[0] < 1000 || count[-1] < 1000 {
		t.Errorf("too few of one answer: %v", count)
	}
}

// TestP4_6Sums checks that the sum of sizes that are within their ranges is within the sum of the ranges.
func TestP4_6Sums(t *testing.T) {
	sums := 0
	triples(func(a, b, c api.Size) {
		for _, x := range []api.Size{a, of(a.Lo-3, a.Hi+1), c} {
			for _, y := range []api.Size{b, of(b.Lo-2, b.Hi+5), c} {
				if must(size.Within(a, x.Lo, x.Hi)) != 1 || must(size.Within(b, y.Lo, y.Hi)) != 1 {
					continue
				}
				sum, e := size.Add(a, b)
				if e != api.OK {
					continue
				}
				sums++
				n, e := size.Within(sum, x.Lo+y.Lo, x.Hi+y.Hi)
				expect(t, fmt.Sprint("Within of the sum of ", a, b), n, e, 1)
			}
		}
	})
	if sums < 10000 {
		t.Errorf("only %d sums", sums)
	}
}

// TestP4_7Exchanged checks Near with exchanged pitches, with both multiplied by a third one, and of a pitch and itself.
func TestP4_7Exchanged(t *testing.T) {
	r := source()
	moved := 0
	pairs(func(a, b api.Pitch) {
		c := exponents(r, 100)
		ac, e := pitch.Mul(a, c)
		bc, f := pitch.Mul(b, c)
		for _, bound := range bounds(a, b) {
			want := near(a, b, bound)
			n, wrong := size.Near(b, a, bound)
			expect(t, fmt.Sprint("Near of ", b, a, bound), n, wrong, want)
			if e == api.OK && f == api.OK {
				moved++
				n, wrong = size.Near(ac, bc, bound)
				expect(t, fmt.Sprint("Near of ", a, b, bound, " both times ", c), n, wrong, want)
			}
			n, wrong = size.Near(a, a, bound)
			expect(t, fmt.Sprint("Near of ", a, a, bound), n, wrong, 1)
		}
	})
	if moved < 10000 {
		t.Errorf("only %d pairs were multiplied", moved)
	}
}

// TestP4_7Bounds checks that a greater bound keeps what is near, and a lesser one what is surely not near.
func TestP4_7Bounds(t *testing.T) {
	pairs(func(a, b api.Pitch) {
		list := bounds(a, b)
		for _, less := range list {
			for _, more := range list {
				if less > more {
					continue
				}
				n, m := near(a, b, less), near(a, b, more)
				if n == 1 && m != 1 || m == -1 && n != -1 {
					t.Errorf("Near of %v and %v: with %d %d, with %d %d", a, b, less, n, more, m)
				}
			}
		}
	})
}

// TestP4_7Sums checks that bounds of neighbours add up.
func TestP4_7Sums(t *testing.T) {
	r := source()
	sums := 0
	for range 20000 {
		a := exponents(r, 500)
		b, c := minus(a, exponents(r, 3)), minus(a, exponents(r, 3))
		if !pitch.Valid(b) || !pitch.Valid(c) {
			continue
		}
		for _, first := range bounds(a, b) {
			for _, second := range bounds(b, c) {
				if first+second > api.MaxStep || near(a, b, first) != 1 || near(b, c, second) != 1 {
					continue
				}
				sums++
				n, e := size.Near(a, c, first+second)
				expect(t, fmt.Sprint("Near of ", a, c, first+second), n, e, 1)
			}
		}
	}
	if sums < 1000 {
		t.Errorf("only %d sums", sums)
	}
}

// TestP4_8Exactly checks Near with bounds of whole semitones against the exact order of pitches.
func TestP4_8Exactly(t *testing.T) {
	count := map[int]int{}
	check := func(a, b api.Pitch) {
		for k := range 25 {
			higherA, ok := tempered(a, k)
			higherB, fine := tempered(b, k)
			if !ok || !fine {
				continue
			}
			exactly := must(pitch.Cmp(a, higherB)) <= 0 && must(pitch.Cmp(b, higherA)) <= 0
			n := near(a, b, k*100000)
			count[n]++
			if n == 1 && !exactly || n == -1 && exactly {
				t.Errorf("Near of %v and %v with %d semitones: %d; exactly: %v", a, b, k, n, exactly)
			}
		}
	}
	r := source()
	for range 1000 {
		a := exponents(r, 500)
		check(a, minus(a, exponents(r, 4)))
	}
	for _, x := range close1152() {
		a, b := halves(x)
		for k := -25; k <= 25; k++ {
			if c, ok := tempered(a, k); ok {
				check(c, b)
			}
		}
	}
	for k := -25; k <= 25; k++ {
		check(api.Pitch{k}, api.Pitch{})
		check(api.Pitch{k, -7, 0, 576}, api.Pitch{0, -7, 0, 576})
		check(api.Pitch{k, 0, 3}, api.Pitch{7})
	}
	if count[1] < 500 || count[0] < 50 || count[-1] < 1000 {
		t.Errorf("too few of one answer: %v", count)
	}
}

// TestP4_9Width checks how wide the size of a pitch is, and the size of what is an octave higher.
func TestP4_9Width(t *testing.T) {
	r := source()
	list := pitches()
	for range 2000 {
		list = append(list, exponents(r, part))
	}
	for _, p := range list {
		width := 0
		for _, e := range p[1:] {
			width += max(e, -e)
		}
		got, e := size.Of(p)
		expect(t, fmt.Sprint("the width of ", p), got.Hi-got.Lo, e, width)
		higher := p
		higher[0] += 12
		if pitch.Valid(higher) {
			octave, e := size.Of(higher)
			expect(t, fmt.Sprint("Of of ", higher), octave, e, of(got.Lo+api.Octave, got.Hi+api.Octave))
		}
	}
}
