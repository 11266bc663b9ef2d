package pitch_test

import (
	"fmt"
	"math/big"
	"slices"
	"testing"

	"schisma/api"
	"schisma/pitch"
)

// The tests of this file check C8, and with it P3.3.

// agrees checks Cmp of two pitches, both ways, against the powers of the library.
func agrees(t *testing.T, a, b api.Pitch) {
	t.Helper()
	want := order(a, b)
	n, e := pitch.Cmp(a, b)
	expect(t, fmt.Sprint("Cmp of ", a, b), n, e, want)
	n, e = pitch.Cmp(b, a)
	expect(t, fmt.Sprint("Cmp of ", b, a), n, e, -want)
}

func TestCmp(t *testing.T) {
	for i, x := range []struct {
		a, b api.Pitch
		want int
	}{
		{api.Pitch{0, 0, 3}, api.Pitch{-12, 12}, -1}, // the fourth root of 5 and 3/2
		{api.Pitch{-144, 144}, api.Pitch{84}, 1},     // twelve fifths and seven octaves
		{api.Pitch{7}, api.Pitch{-12, 12}, -1},       // the tempered fifth and 3/2
		{api.Pitch{0, 12}, api.Pitch{19}, 1},         // 3 and 19 tempered semitones
		{api.Pitch{0, 0, 12}, api.Pitch{28}, -1},     // 5 and 28 tempered semitones
		{api.Pitch{-48, 48, -12}, api.Pitch{}, 1},    // 81/80
		{api.Pitch{48, -48, 12}, api.Pitch{}, -1},    // 80/81
		{api.Pitch{}, api.Pitch{}, 0},
		{api.Pitch{1}, api.Pitch{}, 1},
		{api.Pitch{576}, api.Pitch{0, 363}, 1},
		{api.Pitch{576}, api.Pitch{0, 364}, -1},
	} {
		n, e := pitch.Cmp(x.a, x.b)
		expect(t, fmt.Sprint("case ", i), n, e, x.want)
	}
}

func TestCmpOfAll(t *testing.T) {
	list := pitches()
	for i, a := range list {
		for _, b := range list[:i+1] {
			if i%7 == 0 || valid(a, 100) && valid(b, 100) {
				agrees(t, a, b)
			}
		}
	}
}

// TestCmpAtTheBounds checks the pitches that are furthest apart, and others with the longest products.
func TestCmpAtTheBounds(t *testing.T) {
	for k, a := range signs(part) {
		agrees(t, a, negative(a))
		agrees(t, a, api.Pitch{})
		// Exponents without a common divisor have to be used as they are.
		b := negative(a)
		b[k%6] += a[k%6] / part
		agrees(t, a, b)
		b[(k+1)%6] += 7 * a[(k+1)%6] / part
		agrees(t, a, b)
	}
}

// TestCmpOfOneExponent checks pitches that are equal in all exponents but one.
func TestCmpOfOneExponent(t *testing.T) {
	r := source()
	for i := range 6 {
		for range 200 {
			a := api.Pitch(draw(r, part))
			b := a
			b[i] = r.IntN(2*part+1) - part
			if r.IntN(3) == 0 { // next to each other
				b[i] = max(a[i]-1, -part)
			}
			want := 0
			switch {
			case a[i] > b[i]:
				want = 1
			case a[i] < b[i]:
				want = -1
			}
			n, e := pitch.Cmp(a, b)
			expect(t, fmt.Sprint("Cmp of ", a, b), n, e, want)
		}
		for e := -part; e < part; e++ {
			low, high := api.Pitch{576, -576, 576, -576, 576, -576}, api.Pitch{576, -576, 576, -576, 576, -576}
			low[i], high[i] = e, e+1
			if compare(low, high) != -1 || compare(high, low) != 1 || compare(low, low) != 0 {
				t.Errorf("Cmp of %v and %v: %d, %d", low, high, compare(low, high), compare(high, low))
			}
		}
	}
}

// TestCloseIsClose checks that the exponents of close48 and so on are what they are said to be.
func TestCloseIsClose(t *testing.T) {
	for most, list := range map[int64][][6]int{100_000_000: close48(), 10_000_000_000_000: close576(), 1_000_000_000_000_000: close1152()} {
		for _, x := range list {
			above, below := parts(x)
			apart := new(big.Int).Sub(above, below)
			if apart.Sign() <= 0 || apart.Mul(apart, big.NewInt(most)).Cmp(below) > 0 {
				t.Errorf("%v is not closely above 1", x)
			}
		}
	}
}

// TestCmpOfClosePitches checks pitches that are very close to each other.
func TestCmpOfClosePitches(t *testing.T) {
	for _, x := range slices.Concat(close48(), close576(), close1152()) {
		a, b := halves(x)
		if compare(a, b) != 1 || compare(b, a) != -1 || compare(a, a) != 0 || compare(b, b) != 0 {
			t.Errorf("Cmp of %v and %v: %d, %d", a, b, compare(a, b), compare(b, a))
		}
		if compare(negative(a), negative(b)) != -1 || compare(negative(b), negative(a)) != 1 {
			t.Errorf("Cmp of the inverses of %v and %v: %d", a, b, compare(negative(a), negative(b)))
		}
	}
	for _, x := range slices.Concat(close48(), close576()) {
		if compare(x, api.Pitch{}) != 1 || compare(negative(x), api.Pitch{}) != -1 {
			t.Errorf("Cmp of %v with the unison: %d", x, compare(x, api.Pitch{}))
		}
	}
	for _, x := range close48() {
		p := must(pitch.Of(x))
		if compare(p, api.Pitch{}) != 1 || compare(api.Pitch{}, p) != -1 {
			t.Errorf("Cmp of %v with the unison: %d", p, compare(p, api.Pitch{}))
		}
	}
}

// TestCmpNextToClosePitches checks what is a twelfth of a prime away from pitches that are close to each other.
func TestCmpNextToClosePitches(t *testing.T) {
	for _, x := range slices.Concat(close48(), close576()) {
		a, b := halves(x)
		for i := range 6 {
			for _, step := range []int{-2, -1, 1, 2} {
				c := a
				c[i] += step
				agrees(t, c, b)
			}
		}
	}
}

// TestCmpIsEqualOnlyForEqualPitches checks all differences with small exponents, and powers of close ones.
func TestCmpIsEqualOnlyForEqualPitches(t *testing.T) {
	for n := range 15625 {
		var p api.Pitch
		for i := range p {
			p[i], n = n%5-2, n/5
		}
		if (compare(p, api.Pitch{}) == 0) != (p == api.Pitch{}) {
			t.Errorf("Cmp of %v with the unison: %d", p, compare(p, api.Pitch{}))
		}
		agrees(t, p, api.Pitch{})
	}
	for _, x := range close48() {
		for n := 1; n <= 12; n++ {
			p := must(pitch.Power(x, n, 1))
			if compare(p, api.Pitch{}) != 1 {
				t.Errorf("Cmp of %v with the unison: %d", p, compare(p, api.Pitch{}))
			}
		}
	}
}

// TestP3_3Order checks that Cmp is a total order.
func TestP3_3Order(t *testing.T) {
	list := pitches()
	for _, x := range close1152() {
		a, b := halves(x)
		list = append(list, a, b)
	}
	slices.SortFunc(list, compare)
	list = slices.Compact(list)
	for i, a := range list {
		for k, b := range list {
			want := 0
			switch {
			case i < k:
				want = -1
			case i > k:
				want = 1
			}
			if (i+k)%5 == 0 || i-k < 3 && k-i < 3 {
				n, e := pitch.Cmp(a, b)
				expect(t, fmt.Sprint("Cmp of the sorted pitches ", a, b), n, e, want)
			}
		}
	}
}

func TestCmpOfWhatIsNoPitch(t *testing.T) {
	for _, bad := range outside(part) {
		for _, good := range []api.Pitch{{}, {12}, {576, 576, 576, 576, 576, 576}, bad} {
			n, e := pitch.Cmp(bad, good)
			refused(t, fmt.Sprint("Cmp of ", bad, good), n, e, api.ErrArg)
			n, e = pitch.Cmp(good, bad)
			refused(t, fmt.Sprint("Cmp of ", good, bad), n, e, api.ErrArg)
		}
	}
}
