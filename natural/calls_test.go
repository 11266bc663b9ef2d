package natural_test

import (
	"math"
	"math/big"
	"slices"
	"strings"
	"testing"

	"schisma/api"
	"schisma/natural"
)

// The tests of this file check P1.1, call by call.

func TestValid(t *testing.T) {
	for i, a := range invalid() {
		if natural.Valid(a) {
			t.Errorf("invalid list %d is said to be a natural number", i)
		}
	}
	for i, a := range numbers() {
		if !natural.Valid(a) {
			t.Errorf("number %d is said to be none", i)
		}
	}
	for _, a := range []api.Nat{nil, {}, {0, 1}, {0, 0, 0, top}, greatest(api.MaxLimbs), power2(32*api.MaxLimbs - 32)} {
		if !natural.Valid(a) {
			t.Errorf("%s is said to be no natural number", brief(a))
		}
	}
}

func TestMake(t *testing.T) {
	for n, want := range map[uint64]api.Nat{
		0:             {},
		1:             {1},
		1<<32 - 1:     {top},
		1 << 32:       {0, 1},
		1<<32 + 1:     {1, 1},
		1 << 63:       {0, 1 << 31},
		1<<64 - 1<<32: {0, top},
		1<<64 - 1:     {top, top},
	} {
		if got := natural.Make(n); !slices.Equal(got, want) {
			t.Errorf("Make(%d): %v, want %v", n, got, want)
		}
	}
	r := source()
	for range 1000 {
		n := uint64(limb(r))<<32 | uint64(limb(r))
		expect(t, "Make", natural.Make(n), api.OK, new(big.Int).SetUint64(n))
	}
}

func TestAdd(t *testing.T) {
	for _, a := range numbers() {
		for _, b := range numbers() {
			got, e := natural.Add(a, b)
			expect(t, "Add", got, e, new(big.Int).Add(toBig(a), toBig(b)))
		}
	}
	last := greatest(api.MaxLimbs)
	got, e := natural.Add(last, api.Nat{1})
	refused(t, "Add of the greatest number and 1", got, e, api.ErrLimit)
	got, e = natural.Add(api.Nat{1}, last)
	refused(t, "Add of 1 and the greatest number", got, e, api.ErrLimit)
	got, e = natural.Add(last, nil)
	expect(t, "Add of the greatest number and 0", got, e, toBig(last))
}

func TestSub(t *testing.T) {
	for _, a := range numbers() {
		for _, b := range numbers() {
			got, e := natural.Sub(a, b)
			if toBig(a).Cmp(toBig(b)) < 0 {
				refused(t, "Sub", got, e, api.ErrRange)
				continue
			}
			expect(t, "Sub", got, e, new(big.Int).Sub(toBig(a), toBig(b)))
		}
	}
	got, e := natural.Sub(natural.Make(1<<32), api.Nat{1})
	expect(t, "Sub of 2^32 and 1", got, e, big.NewInt(top))
	got, e = natural.Sub(api.Nat{1}, api.Nat{2})
	refused(t, "Sub of 1 and 2", got, e, api.ErrRange)
	got, e = natural.Sub(nil, greatest(api.MaxLimbs))
	refused(t, "Sub of 0 and the greatest number", got, e, api.ErrRange)
}

func TestMul(t *testing.T) {
	for _, a := range numbers() {
		for _, b := range numbers() {
			got, e := natural.Mul(a, b)
			expect(t, "Mul", got, e, new(big.Int).Mul(toBig(a), toBig(b)))
		}
	}
	got, e := natural.Mul(api.Nat{top}, api.Nat{top})
	if !slices.Equal(got, api.Nat{1, 4294967294}) || e != api.OK || text(got) != "18446744065119617025" {
		t.Errorf("Mul of 2^32 - 1 and 2^32 - 1: %v, %v", got, e)
	}
	// The sum of the lengths alone does not decide: 320 and 321 limbs make 640 or 641.
	got, e = natural.Mul(power2(32*319), power2(32*320))
	expect(t, "Mul with 640 limbs", got, e, toBig(power2(32*639)))
	got, e = natural.Mul(greatest(320), greatest(321))
	refused(t, "Mul with 641 limbs", got, e, api.ErrLimit)
	got, e = natural.Mul(power2(32*320), power2(32*320))
	refused(t, "Mul of 2^10240 and 2^10240", got, e, api.ErrLimit)
	got, e = natural.Mul(power2(32*640-1), api.Nat{2})
	refused(t, "Mul of 2^20479 and 2", got, e, api.ErrLimit)
	got, e = natural.Mul(greatest(640), api.Nat{1})
	expect(t, "Mul of the greatest number and 1", got, e, toBig(greatest(640)))
	got, e = natural.Mul(nil, greatest(640))
	expect(t, "Mul of 0 and the greatest number", got, e, new(big.Int))
}

// divide checks a division of natural numbers.
func divide(t *testing.T, a, b api.Nat) {
	t.Helper()
	q, r, e := natural.Div(a, b)
	if len(b) == 0 {
		refused(t, "Div by 0", q, e, api.ErrZero)
		refused(t, "Div by 0", r, e, api.ErrZero)
		return
	}
	wantQ, wantR := new(big.Int).QuoRem(toBig(a), toBig(b), new(big.Int))
	expect(t, "quotient", q, e, wantQ)
	expect(t, "remainder", r, e, wantR)
}

func TestDiv(t *testing.T) {
	for _, a := range numbers() {
		for _, b := range numbers() {
			divide(t, a, b)
		}
	}
	r := source()
	for range 20000 {
		b := draw(r, 5)
		divide(t, draw(r, 9), b)
		// Dividends next to a multiple of the divisor are the hardest ones to guess.
		m := must(natural.Mul(draw(r, 4), b))
		divide(t, m, b)
		divide(t, must(natural.Add(m, api.Nat{1})), b)
		if len(m) > 0 {
			divide(t, must(natural.Sub(m, api.Nat{1})), b)
		}
	}
	q, rest, e := natural.Div(power2(96), api.Nat{1, 1})
	if !slices.Equal(q, api.Nat{0, 4294967295}) || !slices.Equal(rest, api.Nat{0, 1}) || e != api.OK {
		t.Errorf("Div of 2^96 and 2^32 + 1: %v, %v, %v", q, rest, e)
	}
}

// lastPower returns the last exponent with which a power of a is within the limit, and that power.
func lastPower(a *big.Int) (int, *big.Int) {
	n, power := 0, big.NewInt(1)
	for {
		next := new(big.Int).Mul(power, a)
		if next.BitLen() > 32*api.MaxLimbs {
			return n, power
		}
		n, power = n+1, next
	}
}

func TestPow(t *testing.T) {
	bases := []api.Nat{nil, {1}, {2}, {3}, {10}, {top}, {0, 1}, {7, 5}, {0, 0, 9}, greatest(5), greatest(320), power2(10239), power2(10240), greatest(640)}
	for _, a := range bases {
		for _, n := range []int{0, 1, 2, 3, 4, 5, 7, 8, 15, 16, 31, 63, 64, 65, 127, 128, 255, 639, 640} {
			got, e := natural.Pow(a, n)
			expect(t, "Pow", got, e, new(big.Int).Exp(toBig(a), big.NewInt(int64(n)), nil))
		}
	}
	for _, a := range []uint64{2, 3, 7, 10, 81, 1 << 31, 1<<32 - 1, 1 << 32, 1 << 40, 1<<64 - 1} {
		n, last := lastPower(new(big.Int).SetUint64(a))
		got, e := natural.Pow(natural.Make(a), n)
		expect(t, "the last power within the limit", got, e, last)
		got, e = natural.Pow(natural.Make(a), n+1)
		refused(t, "the first power beyond the limit", got, e, api.ErrLimit)
	}
	if got, e := natural.Pow(api.Nat{2}, 20479); len(got) != 640 || e != api.OK {
		t.Errorf("Pow of 2 and 20479: %d limbs, %v", len(got), e)
	}
	got, e := natural.Pow(api.Nat{2}, 20480)
	refused(t, "Pow of 2 and 20480", got, e, api.ErrLimit)
	got, e = natural.Pow(api.Nat{10}, 20)
	if s, f := natural.Text(got); s != "100000000000000000000" || e != api.OK || f != api.OK {
		t.Errorf("Pow of 10 and 20: %s, %v, %v", s, e, f)
	}
}

func TestPowOfExtremeExponents(t *testing.T) {
	for _, n := range []int{1 << 20, 1 << 62, math.MaxInt - 1, math.MaxInt} {
		got, e := natural.Pow(nil, n)
		expect(t, "Pow of 0", got, e, new(big.Int))
		got, e = natural.Pow(api.Nat{1}, n)
		expect(t, "Pow of 1", got, e, big.NewInt(1))
		for _, a := range []api.Nat{{2}, {3}, {0, 1}, greatest(640)} {
			got, e = natural.Pow(a, n)
			refused(t, "Pow with a great exponent", got, e, api.ErrLimit)
		}
	}
	for _, n := range []int{-1, -2, math.MinInt + 1, math.MinInt} {
		for _, a := range []api.Nat{nil, {1}, {2}, greatest(640)} {
			got, e := natural.Pow(a, n)
			refused(t, "Pow with an exponent below 0", got, e, api.ErrRange)
		}
	}
}

func TestCmp(t *testing.T) {
	for _, a := range numbers() {
		for _, b := range numbers() {
			if n, e := natural.Cmp(a, b); n != toBig(a).Cmp(toBig(b)) || e != api.OK {
				t.Errorf("Cmp of %s and %s: %d, %v", brief(a), brief(b), n, e)
			}
		}
	}
	for i, x := range []struct {
		a, b api.Nat
		want int
	}{{nil, api.Nat{}, 0}, {nil, api.Nat{1}, -1}, {api.Nat{top}, api.Nat{0, 1}, -1}, {api.Nat{9, 1}, api.Nat{1, 2}, -1}, {api.Nat{5, 7, 1}, api.Nat{5, 6, 1}, 1}} {
		if n, e := natural.Cmp(x.a, x.b); n != x.want || e != api.OK {
			t.Errorf("case %d: %d, %v", i, n, e)
		}
		if n, e := natural.Cmp(x.b, x.a); n != -x.want || e != api.OK {
			t.Errorf("case %d, exchanged: %d, %v", i, n, e)
		}
	}
}

func TestText(t *testing.T) {
	for _, a := range numbers() {
		if s, e := natural.Text(a); s != toBig(a).String() || e != api.OK {
			t.Errorf("Text of %s: %.40s, %v", brief(a), s, e)
		}
	}
	for want, a := range map[string]api.Nat{"0": nil, "1": {1}, "999999999": {999999999}, "1000000000": {1000000000}, "4294967296": {0, 1}, "1000000000000000000": {2808348672, 232830643}, "18446744073709551616": {0, 0, 1}} {
		if s, e := natural.Text(a); s != want || e != api.OK {
			t.Errorf("Text: %s, %v; want %s", s, e, want)
		}
	}
}

func TestParse(t *testing.T) {
	for _, a := range numbers() {
		got, e := natural.Parse(toBig(a).String())
		expect(t, "Parse", got, e, toBig(a))
	}
	for zeros := range 40 { // groups of digits that are 0, in all places
		s := "7" + strings.Repeat("0", zeros)
		for _, s := range []string{s, s + "1", s + "100000000", s + "4294967296"} {
			want, _ := new(big.Int).SetString(s, 10)
			got, e := natural.Parse(s)
			expect(t, "Parse of "+s, got, e, want)
		}
	}
	got, e := natural.Parse("0")
	expect(t, "Parse of 0", got, e, new(big.Int))
}

func TestParseOfOtherForms(t *testing.T) {
	list := []string{"", "00", "01", "007", "+1", "-1", "-0", " 1", "1 ", "1\n", "1_000", "1.0", "1e3", "0x1", "1a", "a1", "/", ":", "1/", "1:", "12345678:", "123456789/", "1\x00", "\x00", "\u0661", "1\u0661", "\uff11", "\xb1", "1\xb1"}
	for i := range 256 {
		if c := string([]byte{byte(i)}); c < "0" || c > "9" {
			list = append(list, c, "1"+c, c+"1", "1234567890"+c, "1"+c+"2")
		}
	}
	for _, s := range list {
		got, e := natural.Parse(s)
		refused(t, "Parse of "+s, got, e, api.ErrForm)
	}
}

func TestParseAtTheLimit(t *testing.T) {
	over := new(big.Int).Lsh(big.NewInt(1), 32*api.MaxLimbs)
	last := new(big.Int).Sub(over, big.NewInt(1))
	got, e := natural.Parse(last.String())
	expect(t, "Parse of 2^20480 - 1", got, e, last)
	got, e = natural.Parse(over.String())
	refused(t, "Parse of 2^20480", got, e, api.ErrLimit)
	for n, want := range map[int]api.Errno{6165: api.OK, 6166: api.ErrLimit, 6167: api.ErrLimit, 7000: api.ErrLimit, 1 << 24: api.ErrLimit} {
		a, e := natural.Parse("1" + strings.Repeat("0", n))
		if e != want || e != api.OK && len(a) != 0 {
			t.Errorf("Parse of 10^%d: %d limbs, %v", n, len(a), e)
		}
	}
	nines := strings.Repeat("9", 1<<20)
	for _, s := range []string{nines + "x", "0" + nines, "-" + nines, nines[:8000] + " " + nines} {
		got, e := natural.Parse(s)
		refused(t, "Parse of a long string of another form", got, e, api.ErrForm)
	}
}
