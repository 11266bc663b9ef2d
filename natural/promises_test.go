package natural_test

import (
	"math/bits"
	"slices"
	"strconv"
	"strings"
	"testing"

	"schisma/api"
	"schisma/natural"
)

// call is one of the calls with two numbers and one result.
type call func(a, b api.Nat) (api.Nat, api.Errno)

// chained returns the result of f with that of g with the first two numbers, or the first error.
func chained(f, g call, a, b, c api.Nat) (api.Nat, api.Errno) {
	ab, e := g(a, b)
	if e != api.OK {
		return nil, e
	}
	return f(ab, c)
}

// alike checks that two ways lead to the same number, or to the same error.
func alike(t *testing.T, what string, a api.Nat, e api.Errno, b api.Nat, f api.Errno) {
	t.Helper()
	if e != f || !slices.Equal(a, b) {
		t.Errorf("%s: %s, %v; %s, %v", what, brief(a), e, brief(b), f)
	}
}

// triples returns three numbers again and again; some of their sums and products exceed the limit.
func triples(each func(a, b, c api.Nat)) {
	r := source()
	for range 300 {
		each(draw(r, 10), draw(r, 10), draw(r, 10))
	}
	for range 40 {
		each(draw(r, 240), draw(r, 240), draw(r, 240))
	}
	last := greatest(api.MaxLimbs)
	for _, a := range []api.Nat{nil, {1}, {2}, {0, 1}, last, last[1:]} {
		for _, b := range []api.Nat{nil, {1}, {2}, power2(32*640 - 1), last} {
			for _, c := range []api.Nat{nil, {1}, {top}, last} {
				each(a, b, c)
			}
		}
	}
}

func TestP1_2Sums(t *testing.T) {
	triples(func(a, b, c api.Nat) {
		x, e := natural.Add(a, b)
		y, f := natural.Add(b, a)
		alike(t, "a + b, b + a", x, e, y, f)
		if e == api.OK {
			back, g := natural.Sub(x, b)
			alike(t, "a + b - b", back, g, a, api.OK)
		}
		x, e = chained(natural.Add, natural.Add, a, b, c)
		y, f = chained(natural.Add, natural.Add, b, c, a)
		alike(t, "(a + b) + c, (b + c) + a", x, e, y, f)
	})
	for _, a := range invalid() {
		_, e := natural.Add(a, greatest(api.MaxLimbs))
		_, f := natural.Add(greatest(api.MaxLimbs), a)
		if e != api.ErrArg || f != api.ErrArg {
			t.Errorf("an invalid list as a summand: %v, %v", e, f)
		}
	}
}

func TestP1_3Products(t *testing.T) {
	triples(func(a, b, c api.Nat) {
		x, e := natural.Mul(a, b)
		y, f := natural.Mul(b, a)
		alike(t, "a * b, b * a", x, e, y, f)
		x, e = chained(natural.Mul, natural.Mul, a, b, c)
		y, f = chained(natural.Mul, natural.Mul, b, c, a)
		if e == api.OK && f == api.OK { // a factor 0 may save the one from the limit, but not the other
			alike(t, "(a * b) * c, (b * c) * a", x, e, y, f)
		}
		x, e = chained(natural.Mul, natural.Add, a, b, c)
		ac, f := natural.Mul(a, c)
		bc, g := natural.Mul(b, c)
		if e == api.OK && f == api.OK && g == api.OK {
			y, f = natural.Add(ac, bc)
			alike(t, "(a + b) * c, a * c + b * c", x, e, y, f)
		}
	})
}

func TestP1_4Division(t *testing.T) {
	triples(func(a, b, c api.Nat) {
		q, r, e := natural.Div(a, b)
		if len(b) == 0 {
			refused(t, "division by 0", q, e, api.ErrZero)
			return
		}
		if e != api.OK || order(r, b) >= 0 {
			t.Errorf("remainder %s, divisor %s, %v", brief(r), brief(b), e)
		}
		back, e := natural.Add(must(natural.Mul(q, b)), r)
		alike(t, "q * b + r", back, e, a, api.OK)
		// No other ones: what is put together comes apart in the same way.
		_, rest, _ := natural.Div(c, b)
		dividend, e := chained(natural.Add, natural.Mul, q, b, rest)
		if e == api.OK {
			q2, r2, f := natural.Div(dividend, b)
			alike(t, "the quotient of q * b + r", q2, f, q, api.OK)
			alike(t, "the remainder of q * b + r", r2, f, rest, api.OK)
		}
	})
}

func TestP1_5Powers(t *testing.T) {
	r := source()
	for range 200 {
		a, b := draw(r, 4), draw(r, 4)
		m, n := r.IntN(40), r.IntN(40)
		am, e := natural.Pow(a, m)
		an, f := natural.Pow(a, n)
		amn, g := natural.Pow(a, m+n)
		if e != api.OK || f != api.OK || g != api.OK {
			t.Fatalf("powers: %v, %v, %v", e, f, g)
		}
		x, e := natural.Mul(am, an)
		alike(t, "a^m * a^n, a^(m + n)", x, e, amn, g)
		x, e = natural.Pow(must(natural.Mul(a, b)), n)
		y, f := natural.Mul(an, must(natural.Pow(b, n)))
		alike(t, "(a * b)^n, a^n * b^n", x, e, y, f)
	}
	for _, a := range []api.Nat{nil, {1}, {2}, greatest(api.MaxLimbs)} {
		x, e := natural.Pow(a, 0)
		alike(t, "a^0, 1", x, e, api.Nat{1}, api.OK)
		x, e = natural.Pow(a, 1)
		alike(t, "a^1, a", x, e, a, api.OK)
	}
}

func TestP1_6Order(t *testing.T) {
	triples(func(a, b, c api.Nat) {
		n := order(a, b)
		if n != -order(b, a) || (n == 0) != slices.Equal(a, b) || order(a, a) != 0 {
			t.Errorf("%s and %s: %d", brief(a), brief(b), n)
		}
		if n <= 0 && order(b, c) <= 0 && order(a, c) > 0 {
			t.Errorf("not transitive: %s, %s, %s", brief(a), brief(b), brief(c))
		}
		if x, e := natural.Add(a, c); e == api.OK {
			if y, f := natural.Add(b, c); f == api.OK && order(x, y) != n {
				t.Errorf("adding %s changes the order of %s and %s", brief(c), brief(a), brief(b))
			}
		}
		if x, e := natural.Mul(a, c); e == api.OK && len(c) > 0 {
			if y, f := natural.Mul(b, c); f == api.OK && order(x, y) != n {
				t.Errorf("multiplying by %s changes the order of %s and %s", brief(c), brief(a), brief(b))
			}
		}
		if d, e := natural.Sub(a, b); (e == api.OK) != (n >= 0) || !natural.Valid(d) {
			t.Errorf("%s - %s: %v", brief(a), brief(b), e)
		}
	})
}

func TestP1_7Texts(t *testing.T) {
	list := numbers()
	for i, a := range list {
		s := text(a)
		back, e := natural.Parse(s)
		alike(t, "Parse of Text", back, e, a, api.OK)
		b := list[(i*7+3)%len(list)]
		u := text(b)
		want := strings.Compare(s, u)
		if len(s) != len(u) {
			want = map[bool]int{true: -1, false: 1}[len(s) < len(u)]
		}
		if n := order(a, b); n != want {
			t.Errorf("%s and %s: %d", brief(a), brief(b), n)
		}
	}
	for _, s := range []string{"0", "1", "9", "10", "99999999", "100000000", "999999999", "1000000000", "1000000001", "4294967295", "18446744073709551616", "9" + strings.Repeat("0", 500), strings.Repeat("9", 6165)} {
		if u := text(must(natural.Parse(s))); u != s {
			t.Errorf("Text of Parse: %s, %s", s, u)
		}
	}
}

func TestP1_8Digits(t *testing.T) {
	r := source()
	list := edges()[1:20]
	for range 40 {
		list = append(list, must(natural.Add(draw(r, 20), api.Nat{1})))
	}
	list = append(list, greatest(639))
	for _, a := range list {
		for digit := range 10 {
			x := must(natural.Add(must(natural.Mul(a, api.Nat{10})), natural.Make(uint64(digit))))
			if s, u := text(x), text(a)+strconv.Itoa(digit); s != u {
				t.Errorf("%s, %s", s, u)
			}
		}
	}
}

func TestP1_9MachineIntegers(t *testing.T) {
	r := source()
	for range 5000 {
		a, b := uint64(limb(r))<<32|uint64(limb(r)), uint64(limb(r))<<32|uint64(limb(r))
		a, b = a>>r.IntN(64), b>>r.IntN(64)
		machine(t, a, b)
	}
	for _, a := range []uint64{0, 1, 2, 1<<32 - 1, 1 << 32, 1<<32 + 1, 1 << 63, 1<<64 - 1} {
		for _, b := range []uint64{0, 1, 2, 1<<32 - 1, 1 << 32, 1<<32 + 1, 1 << 63, 1<<64 - 1} {
			machine(t, a, b)
		}
	}
}

// machine checks that Make preserves what can be computed with a and b.
func machine(t *testing.T, a, b uint64) {
	t.Helper()
	x, y := natural.Make(a), natural.Make(b)
	if sum, carry := bits.Add64(a, b, 0); carry == 0 {
		got, e := natural.Add(x, y)
		alike(t, "sum", got, e, natural.Make(sum), api.OK)
	}
	if high, product := bits.Mul64(a, b); high == 0 {
		got, e := natural.Mul(x, y)
		alike(t, "product", got, e, natural.Make(product), api.OK)
	}
	if b > 0 {
		q, rest, e := natural.Div(x, y)
		alike(t, "quotient", q, e, natural.Make(a/b), api.OK)
		alike(t, "remainder", rest, e, natural.Make(a%b), api.OK)
	}
	want := 0
	if a < b {
		want = -1
	} else if a > b {
		want = 1
	}
	if n := order(x, y); n != want {
		t.Errorf("%d and %d: %d", a, b, n)
	}
	if s := text(x); s != strconv.FormatUint(a, 10) {
		t.Errorf("%d: %s", a, s)
	}
}
