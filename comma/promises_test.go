package comma_test

import (
	"math/rand/v2"
	"slices"
	"strings"
	"testing"

	"schisma/api"
	"schisma/comma"
)

// countsOf returns the account of an interval that has one.
func countsOf(t *testing.T, list []api.Named, v api.Vec) []int {
	t.Helper()
	counts, e := comma.Counts(list, v)
	if e != api.OK || len(counts) != len(list) {
		t.Fatalf("Counts of %v in %v: %v, %v", v, list, counts, e)
	}
	return counts
}

// drawAccounts returns accounts of a list with valid intervals, and these.
func drawAccounts(r *rand.Rand, list []api.Named) ([][]int, []api.Vec) {
	var accounts [][]int
	var sums []api.Vec
	for range 60 {
		counts := drawCounts(r, list)
		if v, e := comma.Sum(list, counts); e == api.OK {
			accounts, sums = append(accounts, counts), append(sums, v)
		}
	}
	return accounts, sums
}

// TestP8_2Unique checks that Counts and Sum undo each other.
func TestP8_2Unique(t *testing.T) {
	r := source()
	var count [2]int
	for _, list := range lists() {
		accounts, sums := drawAccounts(r, list)
		for i, counts := range accounts {
			if got := countsOf(t, list, sums[i]); !slices.Equal(got, counts) {
				t.Errorf("%v in %v has the interval %v, which has the account %v", counts, list, sums[i], got)
			}
			count[0]++
		}
		for _, v := range drawIntervals(r, list) {
			counts, e := comma.Counts(list, v)
			if e != api.OK {
				continue
			}
			if got, e := comma.Sum(list, counts); got != v || e != api.OK {
				t.Errorf("%v has the account %v in %v, which has the interval %v, %v", v, counts, list, got, e)
			}
			count[1]++
		}
	}
	if slices.Min(count[:]) < 2000 {
		t.Errorf("too few accounts: %v", count)
	}
}

// TestP8_2AllSmall checks that no two accounts with small counts have the same interval.
func TestP8_2AllSmall(t *testing.T) {
	for _, list := range special() {
		found := map[api.Vec][]int{}
		total := 1
		for range list {
			total *= 3
		}
		for n := range total {
			var counts []int
			for range list {
				counts = append(counts, n%3-1)
				n /= 3
			}
			v, e := comma.Sum(list, counts)
			if e != api.OK {
				continue
			}
			if other := found[v]; other != nil {
				t.Errorf("%v and %v in %v have both the interval %v", counts, other, list, v)
			}
			found[v] = counts
		}
	}
}

// combined returns the counts a plus n times b.
func combined(a, b []int, n int) []int {
	a = slices.Clone(a)
	for i, c := range b {
		a[i] += n * c
	}
	return a
}

// TestP8_3Linear checks that the intervals of sums of accounts, and of opposite counts, are the sums and the opposites.
func TestP8_3Linear(t *testing.T) {
	r := source()
	count := 0
	for _, list := range lists() {
		accounts, sums := drawAccounts(r, list)
		for i, counts := range accounts {
			if got, e := comma.Sum(list, combined(make([]int, len(list)), counts, -1)); got != plus(api.Vec{}, sums[i], -1) || e != api.OK {
				t.Errorf("%v in %v has the interval %v, its opposite %v, %v", counts, list, sums[i], got, e)
			}
			j := r.IntN(len(accounts))
			both, v := combined(counts, accounts[j], 1), plus(sums[i], sums[j], 1)
			if !within(both, most) || !within(v[:], exp) {
				continue
			}
			if got, e := comma.Sum(list, both); got != v || e != api.OK {
				t.Errorf("%v has %v, %v has %v, %v has %v, %v in %v", counts, sums[i], accounts[j], sums[j], both, got, e, list)
			}
			if got := countsOf(t, list, v); !slices.Equal(got, both) {
				t.Errorf("%v has %v, %v has %v, %v has %v in %v", sums[i], counts, sums[j], accounts[j], v, got, list)
			}
			if sums[i] != (api.Vec{}) && sums[j] != (api.Vec{}) {
				count++
			}
		}
	}
	if count < 2000 {
		t.Errorf("only %d sums", count)
	}
}

// TestP8_4Order checks what is asked for with a list in another order.
func TestP8_4Order(t *testing.T) {
	r := source()
	count := map[string]int{}
	for _, list := range lists() {
		order := r.Perm(len(list)) // the comma i of the other list is the comma order[i] of this one
		var other []api.Named
		for _, i := range order {
			other = append(other, list[i])
		}
		if !comma.Valid(other) {
			t.Errorf("%v is valid, %v is not", list, other)
		}
		if slices.IsSorted(order) {
			continue
		}
		for i, j := range order {
			if got, e := comma.Find(other, list[j].Name); got != i || e != api.OK {
				t.Errorf("%q is %d in %v: %v", list[j].Name, got, other, e)
			}
		}
		accounts, _ := drawAccounts(r, list)
		for _, counts := range append(accounts, drawCounts(r, list)) {
			v, e := comma.Sum(list, counts)
			if got, f := comma.Sum(other, reordered(counts, order)); got != v || f != e {
				t.Errorf("%v has %v, %v in %v, but %v, %v in the order %v", counts, v, e, list, got, f, order)
			}
			count["sum"]++
		}
		for _, v := range drawIntervals(r, list) {
			counts, e := comma.Counts(list, v)
			got, f := comma.Counts(other, v)
			if f != e || e == api.OK && !slices.Equal(got, reordered(counts, order)) {
				t.Errorf("%v has %v, %v in %v, but %v, %v in the order %v", v, counts, e, list, got, f, order)
			}
			count["counts"]++
		}
		for n := range 16 {
			takes := drawTakes(r, len(list), n)
			shifts, e := comma.Walk(list, takes)
			var same []api.Take
			for _, x := range takes {
				if x.Count != 0 {
					x.Comma = slices.Index(order, x.Comma)
				}
				same = append(same, x)
			}
			if got, f := comma.Walk(other, same); !slices.Equal(got, shifts) || f != e {
				t.Errorf("%v lead to %v, %v in %v, but to %v, %v in the order %v", takes, shifts, e, list, got, f, order)
			}
			count["walk"]++
		}
	}
	if len(count) < 3 || min(count["sum"], count["counts"], count["walk"]) < 1500 {
		t.Errorf("too few of a kind: %v", count)
	}
}

// reordered returns the counts in an order.
func reordered(counts, order []int) []int {
	var list []int
	for _, i := range order {
		list = append(list, counts[i])
	}
	return list
}

// TestP8_5Text checks that Text and Parse undo each other.
func TestP8_5Text(t *testing.T) {
	r := source()
	var count [2]int
	for _, list := range lists() {
		for range 30 {
			counts := drawCounts(r, list)
			s, e := comma.Text(list, counts)
			got, f := comma.Parse(list, s)
			if e != api.OK || f != api.OK || !slices.Equal(got, counts) {
				t.Errorf("%v has the text %q, %v in %v, which has %v, %v", counts, s, e, list, got, f)
			}
			count[0]++
			s = changed(r, s, list)
			got, e = comma.Parse(list, s)
			if e != api.OK {
				continue
			}
			if again, e := comma.Text(list, got); again != s || e != api.OK {
				t.Errorf("%q has the account %v in %v, which has %q, %v", s, got, list, again, e)
			}
			count[1]++
		}
	}
	for n := -most; n <= most; n++ {
		s, _ := comma.Text(example(), []int{n, -n})
		if got, e := comma.Parse(example(), s); !slices.Equal(got, []int{n, -n}) || e != api.OK {
			t.Errorf("%d and %d have the text %q, which has %v, %v", n, -n, s, got, e)
		}
	}
	if slices.Min(count[:]) < 1000 {
		t.Errorf("too few texts: %v", count)
	}
}

// TestP8_5Different checks that accounts with different counts have different texts.
func TestP8_5Different(t *testing.T) {
	list := []api.Named{{Name: "a", V: unit(0, 1)}, {Name: "aa", V: unit(1, 1)}, {Name: "aaa", V: unit(2, 1)}}
	found := map[string]bool{}
	for n := range 17576 { // 26^3
		s, e := comma.Text(list, []int{n%26 - 13, n/26%26 - 13, n/676 - 13})
		if found[s] || e != api.OK {
			t.Errorf("%q stands there twice: %v", s, e)
		}
		found[s] = true
	}
}

// TestP8_6Shifts checks that each shift is the sum of the intervals of the takes before it, and which account it has.
func TestP8_6Shifts(t *testing.T) {
	r := source()
	count := 0
	for _, list := range lists() {
		for n := range 16 {
			takes := drawTakes(r, len(list), n)
			shifts, e := comma.Walk(list, takes)
			if e != api.OK {
				continue
			}
			if len(shifts) != n+1 || shifts[0] != (api.Vec{}) {
				t.Fatalf("%d shifts of %v", len(shifts), takes)
			}
			var v api.Vec
			for k, x := range takes {
				v = plus(v, list[x.Comma].V, x.Count)
				if shifts[k+1] != v {
					t.Errorf("the shift %d of %v in %v is %v; want %v", k+1, takes, list, shifts[k+1], v)
				}
			}
			counts := tally(len(list), takes)
			if got := countsOf(t, list, v); !slices.Equal(got, counts) {
				t.Errorf("%v lead to %v in %v with the account %v; want %v", takes, v, list, got, counts)
			}
			if v != (api.Vec{}) {
				count++
			}
		}
	}
	if count < 1000 {
		t.Errorf("only %d shifts", count)
	}
}

// TestP8_6Parts checks that the first takes lead to the first shifts, and that what is given back leads back.
func TestP8_6Parts(t *testing.T) {
	r := source()
	count := 0
	for _, list := range lists() {
		takes := drawTakes(r, len(list), 1+r.IntN(7))
		shifts, e := comma.Walk(list, takes)
		if e != api.OK {
			continue
		}
		count++
		for n := range takes {
			if got, e := comma.Walk(list, takes[:n]); !slices.Equal(got, shifts[:n+1]) || e != api.OK {
				t.Errorf("the first %d of %v lead to %v, %v; want %v", n, takes, got, e, shifts)
			}
		}
		back := slices.Clone(takes)
		for i := len(takes) - 1; i >= 0; i-- {
			x := takes[i]
			back = append(back, api.Take{Section: len(back) + 1, Comma: x.Comma, Count: -x.Count, Desk: 7 - x.Desk})
		}
		got, e := comma.Walk(list, back)
		want := slices.Clone(shifts)
		for i := len(shifts) - 2; i >= 0; i-- {
			want = append(want, shifts[i])
		}
		if !slices.Equal(got, want) || e != api.OK {
			t.Errorf("%v lead to %v, %v in %v; want %v", back, got, e, list, want)
		}
	}
	if count < 100 {
		t.Errorf("only %d lists", count)
	}
}

// TestP8_7Fewer checks what is asked for with a list without its last comma.
func TestP8_7Fewer(t *testing.T) {
	r := source()
	var count [2]int
	for _, list := range lists() {
		n := len(list) - 1
		less := list[:n]
		if comma.Valid(less) != (n > 0) {
			t.Errorf("%v is valid: %v", less, n == 0)
		}
		if n == 0 {
			continue
		}
		_, sums := drawAccounts(r, list)
		if _, more := drawAccounts(r, less); len(more) > 0 {
			sums = append(sums, more...)
		}
		for _, v := range append(sums, drawIntervals(r, list)...) {
			counts, e := comma.Counts(list, v)
			if e != api.OK {
				continue
			}
			want, e := counts[:n], api.OK
			if counts[n] != 0 {
				want, e = nil, api.ErrNone
			}
			expectCounts(t, less, v, want, e)
			if e == api.OK {
				expectSum(t, less, want, v, api.OK)
				s, _ := comma.Text(list, counts)
				expectText(t, less, want, s, api.OK)
				expectParse(t, less, s, want, api.OK)
				count[1]++
			} else {
				count[0]++
			}
		}
		expectFind(t, less, list[n].Name, 0, api.ErrNone)
		expectParse(t, less, strings.Join([]string{list[n].Name, "1"}, "*"), nil, api.ErrForm)
	}
	if slices.Min(count[:]) < 2000 {
		t.Errorf("too few accounts: %v", count)
	}
}
