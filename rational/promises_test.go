package rational_test

import (
	"math"
	"testing"

	"schisma/api"
	"schisma/rational"
)

// chained returns the result of g with that of f with the first two numbers, and the third one.
func chained(f, g call, a, b, c api.Rat) (api.Rat, bool) {
	ab, e := f(a, b)
	if e != api.OK {
		return api.Rat{}, false
	}
	abc, e := g(ab, c)
	return abc, e == api.OK
}

// alike checks that two ways that both lead to a number lead to the same one.
func alike(t *testing.T, what string, a api.Rat, okA bool, b api.Rat, okB bool) {
	t.Helper()
	if okA && okB && a != b {
		t.Errorf("%s: %v and %v", what, a, b)
	}
}

// exchanged checks that f gives the same for a and b as for b and a.
func exchanged(t *testing.T, what string, f call, a, b api.Rat) {
	t.Helper()
	x, e := f(a, b)
	y, g := f(b, a)
	if x != y || e != g {
		t.Errorf("%s of %v and %v: %v, %v; exchanged %v, %v", what, a, b, x, e, y, g)
	}
}

// undone checks that g undoes what f does to a with b.
func undone(t *testing.T, what string, f, g call, a, b api.Rat) {
	t.Helper()
	x, e := f(a, b)
	if e != api.OK {
		return
	}
	if y, e := g(x, b); y != a || e != api.OK {
		t.Errorf("%s of %v with %v: %v and back %v, %v", what, a, b, x, y, e)
	}
}

func TestP2_2Reduced(t *testing.T) {
	r := source()
	for range 20000 {
		top := most >> r.IntN(30)
		n, d := r.IntN(2*top+1)-top, r.IntN(2*top+1)-top
		if d == 0 {
			continue
		}
		a, e := rational.Make(n, d)
		if e != api.OK || !rational.Valid(a) || a.N*d != n*a.D {
			t.Fatalf("Make(%d, %d): %v, %v", n, d, a, e)
		}
		for _, k := range []int{1, -1, 2, -3, 12, 531441, -most, r.IntN(1<<32) + 1} {
			if b, e := rational.Make(k*n, k*d); b != a || e != api.OK {
				t.Errorf("Make(%d * %d, %d * %d): %v, %v; want %v", k, n, k, d, b, e, a)
			}
		}
	}
	for _, k := range []int{2, -3, most, 1 << 31, math.MaxInt / (most + 1), math.MinInt / (most + 1)} {
		for _, x := range [][2]int{{most + 1, 1}, {1, most + 1}, {-most - 1, most}} {
			got, e := rational.Make(k*x[0], k*x[1])
			refused(t, "Make of multiples of what is no number", got, e, api.ErrRange)
		}
	}
}

func TestP2_3Sums(t *testing.T) {
	triples(func(a, b, c api.Rat) {
		exchanged(t, "Add", rational.Add, a, b)
		left, okL := chained(rational.Add, rational.Add, a, b, c)
		right, okR := chained(rational.Add, rational.Add, b, c, a)
		alike(t, "(a + b) + c, a + (b + c)", left, okL, right, okR)
		undone(t, "Add", rational.Add, rational.Sub, a, b)
		undone(t, "Sub", rational.Sub, rational.Add, a, b)
	})
}

func TestP2_4Products(t *testing.T) {
	triples(func(a, b, c api.Rat) {
		exchanged(t, "Mul", rational.Mul, a, b)
		left, okL := chained(rational.Mul, rational.Mul, a, b, c)
		right, okR := chained(rational.Mul, rational.Mul, b, c, a)
		alike(t, "(a * b) * c, a * (b * c)", left, okL, right, okR)
		whole, okW := chained(rational.Add, rational.Mul, a, b, c)
		ac, e := rational.Mul(a, c)
		if bc, f := rational.Mul(b, c); e == api.OK && f == api.OK {
			parts, g := rational.Add(ac, bc)
			alike(t, "(a + b) * c, a * c + b * c", whole, okW, parts, g == api.OK)
		}
		if b.N != 0 {
			undone(t, "Mul", rational.Mul, rational.Div, a, b)
			undone(t, "Div", rational.Div, rational.Mul, a, b)
		}
	})
}

// TestP2_3And4Reach checks that the promises of sums and products are not kept for want of numbers.
func TestP2_3And4Reach(t *testing.T) {
	one := of(1, 1)
	for _, a := range edges() {
		for name, f := range map[string]call{"Mul": rational.Mul, "Div": rational.Div} {
			if x, e := f(a, one); x != a || e != api.OK {
				t.Errorf("%s of %v and 1: %v, %v", name, a, x, e)
			}
		}
		for name, f := range map[string]call{"Add": rational.Add, "Sub": rational.Sub} {
			if x, e := f(a, of(0, 1)); x != a || e != api.OK {
				t.Errorf("%s of %v and 0: %v, %v", name, a, x, e)
			}
		}
		if x, e := rational.Sub(a, a); x != of(0, 1) || e != api.OK {
			t.Errorf("Sub of %v and itself: %v, %v", a, x, e)
		}
		if x, e := rational.Div(a, a); a.N != 0 && (x != one || e != api.OK) {
			t.Errorf("Div of %v and itself: %v, %v", a, x, e)
		}
	}
}

func TestP2_5Order(t *testing.T) {
	triples(func(a, b, c api.Rat) {
		ab, bc, ac := must(rational.Cmp(a, b)), must(rational.Cmp(b, c)), must(rational.Cmp(a, c))
		if back := must(rational.Cmp(b, a)); back != -ab || (ab == 0) != (a == b) {
			t.Errorf("Cmp of %v and %v: %d, and back %d", a, b, ab, back)
		}
		if ab <= 0 && bc <= 0 && ac != min(ab, bc) {
			t.Errorf("Cmp of %v, %v and %v: %d, %d, %d", a, b, c, ab, bc, ac)
		}
		if x, e := rational.Sub(a, b); e == api.OK && must(rational.Cmp(x, of(0, 1))) != ab {
			t.Errorf("Cmp of %v and %v: %d, but the difference is %v", a, b, ab, x)
		}
		x, e := rational.Add(a, c)
		if y, f := rational.Add(b, c); e == api.OK && f == api.OK && must(rational.Cmp(x, y)) != ab {
			t.Errorf("Cmp of %v and %v: %d, but not with %v added", a, b, ab, c)
		}
	})
}

func TestP2_5Floor(t *testing.T) {
	for _, a := range append(numbers(), small(25)...) {
		whole := of(must(rational.Floor(a)), 1)
		if must(rational.Cmp(whole, a)) > 0 {
			t.Errorf("the floor of %v: %v", a, whole)
		}
		if next, e := rational.Add(whole, of(1, 1)); e == api.OK && must(rational.Cmp(a, next)) >= 0 {
			t.Errorf("the floor of %v and 1: %v", a, next)
		}
	}
}

func TestP2_8Text(t *testing.T) {
	texts := map[string]api.Rat{}
	for _, a := range append(numbers(), small(30)...) {
		s := text(a)
		if b, e := rational.Parse(s); b != a || e != api.OK {
			t.Errorf("Parse of %s: %v, %v; want %v", s, b, e, a)
		}
		if b, ok := texts[s]; ok && a != b {
			t.Errorf("%v and %v have the same text %s", a, b, s)
		}
		texts[s] = a
	}
	for s := range texts {
		for _, s := range []string{s, "-" + s, s + "1", "1" + s, s + "/3", "0" + s, s[:len(s)-1], s + "0"} {
			if a, e := rational.Parse(s); e == api.OK && text(a) != s {
				t.Errorf("Parse of %q: %v, whose text is %s", s, a, text(a))
			}
		}
	}
}
