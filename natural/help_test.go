package natural_test

import (
	"fmt"
	"math/big"
	"math/rand/v2"
	"slices"
	"testing"

	"schisma/api"
	"schisma/natural"
)

const top = 1<<32 - 1 // the greatest limb

// invalid returns lists of limbs that are not natural numbers.
func invalid() []api.Nat {
	long := make(api.Nat, api.MaxLimbs+1)
	long[api.MaxLimbs] = 1
	huge := make(api.Nat, 1<<20)
	huge[len(huge)-1] = 1
	full := make(api.Nat, api.MaxLimbs)
	return []api.Nat{{0}, {1, 0}, {0, 0}, {7, 8, 0}, full, long, huge, make(api.Nat, 1<<20)}
}

// power2 returns 2 to the power n.
func power2(n int) api.Nat {
	a := make(api.Nat, n/32+1)
	a[n/32] = 1 << (n % 32)
	return a
}

// greatest returns the greatest number with n limbs.
func greatest(n int) api.Nat {
	return slices.Repeat(api.Nat{top}, n)
}

// edges returns numbers at which carries, borrows and guesses are apt to go wrong.
func edges() []api.Nat {
	return []api.Nat{
		nil, {1}, {2}, {9}, {10}, {999999999}, {1000000000}, {1 << 31}, {top},
		{0, 1}, {1, 1}, {top, 1}, {0, 1 << 31}, {1, 1 << 31}, {0, top}, {top, top},
		{0, 0, 1}, {0, 1, 1}, {3, 0, 1 << 31}, {1, 0, 1 << 29}, {0, top - 1, 1 << 31},
		{top, 0, 1 << 31}, {top, 1 << 31}, {0, 0, top, top}, {0, 0, 0, 1 << 31}, {top, top, top, 1},
		greatest(7), power2(32 * 8), power2(32*8 - 1), greatest(319), greatest(320), greatest(321),
		power2(32*320 - 1), power2(32 * 320), greatest(639), greatest(640), power2(32*640 - 1),
	}
}

// source returns a source of numbers that are the same in each run.
func source() *rand.Rand {
	return rand.New(rand.NewPCG(81, 80))
}

// limb returns a limb, more often than not an extreme one.
func limb(r *rand.Rand) uint32 {
	switch r.IntN(6) {
	case 0:
		return 0
	case 1:
		return top
	case 2:
		return 1 << 31
	case 3:
		return uint32(r.IntN(3))
	}
	return r.Uint32()
}

// draw returns a number with at most n limbs.
func draw(r *rand.Rand, n int) api.Nat {
	a := make(api.Nat, r.IntN(n+1))
	for i := range a {
		a[i] = limb(r)
	}
	for len(a) > 0 && a[len(a)-1] == 0 {
		a[len(a)-1] = limb(r)
	}
	return a
}

// numbers returns the edges and a few more numbers.
func numbers() []api.Nat {
	r := source()
	list := edges()
	for range 60 {
		list = append(list, draw(r, 12))
	}
	for range 10 {
		list = append(list, draw(r, api.MaxLimbs))
	}
	return list
}

// toBig returns a as the library has it.
func toBig(a api.Nat) *big.Int {
	b := make([]byte, 0, 4*len(a))
	for _, x := range slices.Backward(a) {
		b = append(b, byte(x>>24), byte(x>>16), byte(x>>8), byte(x))
	}
	return new(big.Int).SetBytes(b)
}

// fromBig returns the limbs of b, as many as there are.
func fromBig(b *big.Int) api.Nat {
	var a api.Nat
	mask := big.NewInt(top)
	for rest := new(big.Int).Set(b); rest.Sign() > 0; rest.Rsh(rest, 32) {
		a = append(a, uint32(new(big.Int).And(rest, mask).Uint64()))
	}
	return a
}

// brief returns how a is shown when a test fails.
func brief(a api.Nat) string {
	if len(a) > 6 {
		return fmt.Sprintf("%d limbs %v ..", len(a), a[:6])
	}
	return fmt.Sprint([]uint32(a))
}

// expect checks a result against the number b, or against ErrLimit if b has too many limbs.
func expect(t *testing.T, call string, got api.Nat, e api.Errno, b *big.Int) {
	t.Helper()
	if b.BitLen() > 32*api.MaxLimbs {
		if e != api.ErrLimit || len(got) != 0 {
			t.Errorf("%s: %d limbs, %v instead of ErrLimit", call, len(got), e)
		}
		return
	}
	if e != api.OK || !natural.Valid(got) || !slices.Equal(got, fromBig(b)) {
		t.Errorf("%s: %s, %v; want %s", call, brief(got), e, brief(fromBig(b)))
	}
}

// refused checks that a call was refused, and that its number is 0.
func refused(t *testing.T, call string, got api.Nat, e, want api.Errno) {
	t.Helper()
	if e != want || len(got) != 0 {
		t.Errorf("%.40q: %s, %v; want the %v alone", call, brief(got), e, want)
	}
}

// must returns a number that is to be there.
func must(a api.Nat, e api.Errno) api.Nat {
	if e != api.OK {
		panic(e)
	}
	return a
}

// text returns the text of a, which is to be there.
func text(a api.Nat) string {
	s, e := natural.Text(a)
	if e != api.OK {
		panic(e)
	}
	return s
}

// order returns how a compares with b.
func order(a, b api.Nat) int {
	n, e := natural.Cmp(a, b)
	if e != api.OK {
		panic(e)
	}
	return n
}
