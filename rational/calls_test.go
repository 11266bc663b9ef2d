package rational_test

import (
	"fmt"
	"math"
	"math/big"
	"slices"
	"strings"
	"testing"

	"schisma/api"
	"schisma/rational"
)

// The tests of this file check P2.1, call by call.

// call is one of the calls with two numbers and one result.
type call func(a, b api.Rat) (api.Rat, api.Errno)

func TestValid(t *testing.T) {
	for _, a := range invalid() {
		if rational.Valid(a) {
			t.Errorf("%v is said to be a number", a)
		}
	}
	for _, a := range edges() {
		if !rational.Valid(a) {
			t.Errorf("%v is said to be no number", a)
		}
	}
	for n := -60; n <= 60; n++ {
		for d := -60; d <= 60; d++ {
			a := of(n, d)
			want := d > 0 && lowest(n, d)
			if rational.Valid(a) != want {
				t.Errorf("Valid of %v: %v", a, !want)
			}
		}
	}
}

func TestMake(t *testing.T) {
	for _, x := range []struct {
		n, d int
		want api.Rat
	}{
		{6, -4, of(-3, 2)}, {-6, -4, of(3, 2)}, {-6, 4, of(-3, 2)}, {6, 4, of(3, 2)},
		{0, 1, of(0, 1)}, {0, -1, of(0, 1)}, {0, 7, of(0, 1)}, {0, -7, of(0, 1)},
		{most, 1, of(most, 1)}, {most, -1, of(-most, 1)}, {1, most, of(1, most)}, {1, -most, of(-1, most)},
		{most, most, of(1, 1)}, {2 * most, 2, of(most, 1)}, {2, -2 * most, of(-1, most)},
		{most * most, most, of(most, 1)}, {-most, most * most, of(-1, most)},
	} {
		if got, e := rational.Make(x.n, x.d); got != x.want || e != api.OK {
			t.Errorf("Make(%d, %d): %v, %v", x.n, x.d, got, e)
		}
	}
	r := source()
	for range 20000 {
		n, d := int(r.Uint64())>>r.IntN(64), int(r.Uint64())>>r.IntN(64)
		if d != 0 {
			got, e := rational.Make(n, d)
			expect(t, fmt.Sprintf("Make(%d, %d)", n, d), got, e, big.NewRat(int64(n), int64(d)))
		}
	}
}

func TestMakeOfWhatIsNoNumber(t *testing.T) {
	for _, n := range []int{0, 1, -1, most, most + 1, math.MaxInt, math.MinInt} {
		got, e := rational.Make(n, 0)
		refused(t, fmt.Sprintf("Make(%d, 0)", n), got, e, api.ErrZero)
	}
	for _, x := range [][2]int{{most + 1, 1}, {-most - 1, 1}, {1, most + 1}, {1, -most - 1}, {most + 1, most}, {most, most + 1}, {2*most + 2, 2}, {math.MaxInt, math.MaxInt - 1}} {
		got, e := rational.Make(x[0], x[1])
		refused(t, fmt.Sprint("Make of ", x), got, e, api.ErrRange)
	}
}

func TestMakeOfTheLeastInt(t *testing.T) {
	const least = math.MinInt
	for _, x := range []struct {
		n, d int
		want api.Rat
		e    api.Errno
	}{
		{least, least, of(1, 1), api.OK},
		{0, least, of(0, 1), api.OK},
		{least, 1 << 62, of(-2, 1), api.OK},
		{least, -1 << 62, of(2, 1), api.OK},
		{1 << 62, least, of(-1, 2), api.OK},
		{-1 << 62, least, of(1, 2), api.OK},
		{3 << 61, least, of(-3, 4), api.OK},
		{least, 1 << 34, of(-1<<29, 1), api.OK},
		{least, -1 << 34, of(1<<29, 1), api.OK},
		{-1 << 34, least, of(1, 1<<29), api.OK},
		{least, 1 << 33, api.Rat{}, api.ErrRange},
		{1 << 33, least, api.Rat{}, api.ErrRange},
		{least, 1, api.Rat{}, api.ErrRange},
		{least, -1, api.Rat{}, api.ErrRange},
		{1, least, api.Rat{}, api.ErrRange},
		{-1, least, api.Rat{}, api.ErrRange},
		{least, math.MaxInt, api.Rat{}, api.ErrRange},
		{math.MaxInt, least, api.Rat{}, api.ErrRange},
		{least, least + 1, api.Rat{}, api.ErrRange},
		{least, 0, api.Rat{}, api.ErrZero},
	} {
		if got, e := rational.Make(x.n, x.d); got != x.want || e != x.e {
			t.Errorf("Make(%d, %d): %v, %v; want %v, %v", x.n, x.d, got, e, x.want, x.e)
		}
	}
}

// sameAs checks that f does what the operation of the library does, for all pairs of numbers.
func sameAs(t *testing.T, name string, f call, operation func(z, a, b *big.Rat) *big.Rat) {
	t.Helper()
	for _, a := range numbers() {
		for _, b := range numbers() {
			got, e := f(a, b)
			expect(t, fmt.Sprint(name, " of ", a, b), got, e, operation(new(big.Rat), toBig(a), toBig(b)))
		}
	}
}

func TestAdd(t *testing.T) {
	sameAs(t, "Add", rational.Add, (*big.Rat).Add)
	if got, e := rational.Add(of(1, 2), of(1, 3)); got != of(5, 6) || e != api.OK {
		t.Errorf("Add(1/2, 1/3): %v, %v", got, e)
	}
	got, e := rational.Add(of(most, 1), of(1, 1))
	refused(t, "Add beyond the greatest numerator", got, e, api.ErrRange)
	got, e = rational.Add(of(most, 1), of(1, most))
	refused(t, "Add of most and 1/most", got, e, api.ErrRange)
	got, e = rational.Add(of(1, most), of(1, most-1))
	refused(t, "Add beyond the greatest denominator", got, e, api.ErrRange)
}

func TestSub(t *testing.T) {
	sameAs(t, "Sub", rational.Sub, (*big.Rat).Sub)
	got, e := rational.Sub(of(-most, 1), of(1, 1))
	refused(t, "Sub below the least numerator", got, e, api.ErrRange)
	if got, e = rational.Sub(of(7, 12), of(7, 12)); got != of(0, 1) || e != api.OK {
		t.Errorf("Sub(7/12, 7/12): %v, %v", got, e)
	}
}

func TestMul(t *testing.T) {
	sameAs(t, "Mul", rational.Mul, (*big.Rat).Mul)
	got, e := rational.Mul(of(most, 1), of(most, 1))
	refused(t, "Mul of most and most", got, e, api.ErrRange)
	got, e = rational.Mul(of(31623, 1), of(31623, 1))
	refused(t, "Mul of 31623 and 31623", got, e, api.ErrRange)
	got, e = rational.Mul(of(1, 31623), of(-1, 31623))
	refused(t, "Mul of 1/31623 and -1/31623", got, e, api.ErrRange)
	got, e = rational.Mul(of(31622, 1), of(31622, 1))
	expect(t, "Mul of 31622 and 31622", got, e, big.NewRat(31622*31622, 1))
}

func TestDiv(t *testing.T) {
	zero := of(0, 1)
	for _, a := range numbers() {
		for _, b := range numbers() {
			got, e := rational.Div(a, b)
			if b == zero {
				refused(t, "Div by 0", got, e, api.ErrZero)
				continue
			}
			expect(t, fmt.Sprint("Div of ", a, b), got, e, new(big.Rat).Quo(toBig(a), toBig(b)))
		}
	}
	got, e := rational.Div(of(most, 1), of(1, 2))
	refused(t, "Div of most by 1/2", got, e, api.ErrRange)
	got, e = rational.Div(of(1, most), of(2, 1))
	refused(t, "Div of 1/most by 2", got, e, api.ErrRange)
	if got, e = rational.Div(of(3, 2), of(-9, 8)); got != of(-4, 3) || e != api.OK {
		t.Errorf("Div(3/2, -9/8): %v, %v", got, e)
	}
}

func TestCmp(t *testing.T) {
	for _, a := range numbers() {
		for _, b := range numbers() {
			if got, e := rational.Cmp(a, b); got != toBig(a).Cmp(toBig(b)) || e != api.OK {
				t.Errorf("Cmp of %v and %v: %d, %v", a, b, got, e)
			}
		}
	}
	if got, e := rational.Cmp(of(most-1, most), of(most-2, most-1)); got != 1 || e != api.OK {
		t.Errorf("Cmp of two numbers that are 1/(most * (most - 1)) apart: %d, %v", got, e)
	}
}

func TestFloor(t *testing.T) {
	for _, x := range []struct {
		a    api.Rat
		want int
	}{
		{of(-3, 2), -2}, {of(3, 2), 1}, {of(0, 1), 0}, {of(-1, 1), -1}, {of(1, 1), 1},
		{of(1, most), 0}, {of(-1, most), -1}, {of(most, 1), most}, {of(-most, 1), -most},
		{of(most, most-1), 1}, {of(-most, most-1), -2}, {of(most-1, most), 0}, {of(1-most, most), -1},
	} {
		if got, e := rational.Floor(x.a); got != x.want || e != api.OK {
			t.Errorf("Floor of %v: %d, %v; want %d", x.a, got, e, x.want)
		}
	}
	for _, a := range slices.Concat(numbers(), small(30)) {
		b := toBig(a)
		want := new(big.Int).Div(b.Num(), b.Denom()) // rounds down, as the denominator is above 0
		if got, e := rational.Floor(a); int64(got) != want.Int64() || e != api.OK {
			t.Errorf("Floor of %v: %d, %v; want %v", a, got, e, want)
		}
	}
}

func TestText(t *testing.T) {
	for want, a := range map[string]api.Rat{
		"0": of(0, 1), "1": of(1, 1), "-1": of(-1, 1), "-3/2": of(-3, 2), "3/2": of(3, 2), "1/10": of(1, 10),
		"1000000000": of(most, 1), "-1000000000": of(-most, 1), "1/1000000000": of(1, most), "-1000000000/999999999": of(-most, most-1),
	} {
		if got, e := rational.Text(a); got != want || e != api.OK {
			t.Errorf("Text of %v: %s, %v; want %s", a, got, e, want)
		}
	}
	for _, a := range numbers() {
		if got, e := rational.Text(a); got != toBig(a).RatString() || e != api.OK {
			t.Errorf("Text of %v: %s, %v", a, got, e)
		}
	}
}

func TestParse(t *testing.T) {
	for _, a := range numbers() {
		got, e := rational.Parse(toBig(a).RatString())
		expect(t, fmt.Sprint("Parse of the text of ", a), got, e, toBig(a))
	}
}

// TestParseOfOtherForms checks that what is no text of a number is refused, even where it has a value.
func TestParseOfOtherForms(t *testing.T) {
	list := []string{
		"", "-", "/", "-/", "1/", "/1", "/2", "-/2", "1/-", "1//2", "1/2/3", "1/2/", "/1/2", "--1", "1-", "1-2", "-1-2",
		"00", "01", "007", "-01", "-0", "-00", "0/1", "0/2", "0/0", "1/0", "-1/0", "-0/1", "1/1", "-7/1", "2/4", "-6/4", "6/3", "03/2", "3/02", "3/002",
		"+1", "+1/2", "1/+2", "1/-2", "-1/-2", "+0", "1 ", " 1", "1 /2", "1/ 2", "1/2 ", "- 1", "1\n", "1/2\n", "1\x00", "\x00",
		"1_000", "1,000", "1.5", "1.0", "1e3", "0x1", "0b1", "0o7", "1/0x2", "x", "1/x", "x/2", "1:2", "1\\2",
		"1000000001", "-1000000001", "1/1000000001", "-1/1000000001", "1000000001/1000000000", "1000000000/1000000001", "1000000000/1000000000", "2000000000/2",
		"9223372036854775807", "9223372036854775808", "-9223372036854775808", "1/9223372036854775808", "18446744073709551617", "18446744073709551617/2", "1/18446744073709551618",
		"\u0661", "1/\u0662", "\u22121", "1\u20442", "\uff11", "\xb1", "\xb1/2",
	}
	for _, valid := range []string{"1", "-7", "3/2", "-12/7"} {
		for i := range len(valid) + 1 {
			for c := range 256 {
				s := valid[:i] + string([]byte{byte(c)}) + valid[i:]
				if !strings.Contains("0123456789-/", string([]byte{byte(c)})) {
					list = append(list, s)
				}
			}
		}
	}
	for _, s := range list {
		got, e := rational.Parse(s)
		refused(t, fmt.Sprintf("Parse of %q", s), got, e, api.ErrForm)
	}
}

// TestParseOfLongStrings checks that a long string is refused without ado.
func TestParseOfLongStrings(t *testing.T) {
	long := 1 << 24
	for _, s := range []string{
		strings.Repeat("9", long), strings.Repeat("0", long), strings.Repeat("0", long) + "1", "1/" + strings.Repeat("0", long) + "2",
		"1/" + strings.Repeat("1", long), strings.Repeat("/", long), strings.Repeat("-", long), "-" + strings.Repeat("7", long) + "/2", "1" + strings.Repeat(" ", long),
	} {
		got, e := rational.Parse(s)
		refused(t, "Parse of a long string", got, e, api.ErrForm)
	}
}

// TestParseOfAllShortStrings checks that of all strings of up to five of these characters those are taken that are texts of numbers.
func TestParseOfAllShortStrings(t *testing.T) {
	const characters = "0129-/+ "
	texts := map[string]api.Rat{}
	for d := 1; d <= 999; d++ {
		for n := -9999; n <= 99999; n++ {
			if d > 9 && n > 999 || d > 99 && n > 99 || d > 1 && n < -99 || d > 9 && n < -9 {
				continue
			}
			a := big.NewRat(int64(n), int64(d))
			if s := a.RatString(); a.Denom().Int64() == int64(d) && len(s) <= 5 {
				texts[s] = of(n, d)
			}
		}
	}
	list := []string{""}
	for start, length := 0, 0; length <= 5; length++ {
		end := len(list)
		for _, s := range list[start:] {
			want, ok := texts[s]
			got, e := rational.Parse(s)
			if ok && (got != want || e != api.OK) || !ok && (got != api.Rat{} || e != api.ErrForm) {
				t.Errorf("Parse of %q: %v, %v", s, got, e)
			}
			for i := range len(characters) {
				list = append(list, s+characters[i:i+1])
			}
		}
		start = end
	}
}
