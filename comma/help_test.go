package comma_test

import (
	"math"
	"math/big"
	"math/rand/v2"
	"regexp"
	"slices"
	"strconv"
	"strings"

	"schisma/api"
)

// The greatest exponent of an interval and the greatest count.
const (
	exp  = api.MaxExp
	most = api.MaxCount
)

// unit returns the interval that has n in a column, and 0 elsewhere.
func unit(column, n int) api.Vec {
	var v api.Vec
	v[column] = n
	return v
}

// full returns the interval of which all exponents are n.
func full(n int) api.Vec {
	return api.Vec{n, n, n, n, n, n}
}

// plus returns a plus n times b.
func plus(a, b api.Vec, n int) api.Vec {
	for c, e := range b {
		a[c] += n * e
	}
	return a
}

// within reports whether no number is more than top away from 0.
func within(list []int, top int) bool {
	return len(list) == 0 || slices.Max(list) <= top && slices.Min(list) >= -top
}

// named returns the list of intervals with the names a, b, and so on.
func named(rows ...api.Vec) []api.Named {
	var list []api.Named
	for i, v := range rows {
		list = append(list, api.Named{Name: string(rune('a' + i)), V: v})
	}
	return list
}

// example returns the list of the chapter's examples.
func example() []api.Named {
	return []api.Named{{Name: "syntonic", V: api.Vec{-4, 4, -1}}, {Name: "schisma", V: api.Vec{-15, 8, 1}}}
}

// near returns two commas that hardly differ, so that small intervals have great counts.
func near() []api.Named {
	return named(api.Vec{1, 39}, api.Vec{1, 40})
}

// units returns commas that are the first n primes.
func units(n int) []api.Named {
	var rows []api.Vec
	for c := range n {
		rows = append(rows, unit(c, 1))
	}
	return named(rows...)
}

// source returns a source of numbers that are the same in each run.
func source() *rand.Rand {
	return rand.New(rand.NewPCG(8, 1))
}

// number returns an integer that is at most top away from 0.
func number(r *rand.Rand, top int) int {
	return r.IntN(2*top+1) - top
}

// drawRow returns an interval whose exponents are at most top away from 0, and some of them 0.
func drawRow(r *rand.Rand, top int) api.Vec {
	var row api.Vec
	for c := range row {
		if r.IntN(4) > 0 {
			row[c] = number(r, top)
		}
	}
	return row
}

// drawName returns a name of 1 to 16 bytes.
func drawName(r *rand.Rand) string {
	var name []byte
	for range 1 + r.IntN(1+r.IntN(16)) {
		name = append(name, byte('a'+r.IntN(26)))
	}
	return string(name)
}

// drawList returns n named commas, which may not be valid.
func drawList(r *rand.Rand, n int) []api.Named {
	top := []int{exp, exp, exp, 20, 8, 4}[n-1]
	top = 1 + r.IntN(top)
	var list []api.Named
	for i := range n {
		v := drawRow(r, top)
		if i > 0 && r.IntN(4) == 0 {
			v = plus(list[i-1].V, unit(r.IntN(6), 1), 1-2*r.IntN(2))
		}
		list = append(list, api.Named{Name: drawName(r), V: v})
	}
	return list
}

// special returns lists at some bound, and well-known ones.
func special() [][]api.Named {
	list := [][]api.Named{
		example(), near(), {near()[1], near()[0]}, units(1), units(2), units(3), units(4), units(5), units(6),
		named(full(exp)), named(full(-exp)), named(unit(5, -1)), named(unit(3, 2), unit(0, 3)), named(api.Vec{2, 4, 6}, api.Vec{4, 6, 8}), named(api.Vec{48, 47}, api.Vec{47, 46}), named(api.Vec{6}, api.Vec{0, 10}, api.Vec{0, 0, 15}),
		named(full(exp), plus(full(exp), unit(5, 1), -1)), named(full(exp), plus(full(-exp), unit(2, 1), 1), api.Vec{30, -11}), named(api.Vec{exp, exp}, api.Vec{0, exp, exp}, api.Vec{0, 0, exp, exp}, api.Vec{0, 0, 0, exp, exp}),
		named(full(exp), api.Vec{-exp, exp, exp, exp, exp, exp}, api.Vec{exp, -exp, exp, exp, exp, exp}, unit(5, 41)), // a volume of 288^3 * 41
		{{Name: "abcdefghijklmnop", V: unit(0, 1)}}, {{Name: "qrstuvwxyz", V: unit(0, 1)}, {Name: "q", V: unit(1, 1)}, {Name: "zzzzzzzzzzzzzzzz", V: unit(2, 1)}, {Name: "zzzzzzzzzzzzzzz", V: unit(3, 1)}, {Name: "aaaaaaaaaaaaaaaa", V: unit(4, 1)}, {Name: "aa", V: unit(5, 1)}},
		{{Name: "syntonic", V: api.Vec{-4, 4, -1}}, {Name: "septimal", V: api.Vec{6, -2, 0, -1}}, {Name: "undecimal", V: api.Vec{-5, 1, 0, 0, 1}}, {Name: "tridecimal", V: api.Vec{-1, -2, 0, 0, 0, 1}}, {Name: "schisma", V: api.Vec{-15, 8, 1}}, {Name: "octave", V: unit(0, 1)}},
	}
	return list
}

// lists returns special lists, and others of each length.
func lists() [][]api.Named {
	list := special()
	r := source()
	for n := 1; n <= 6; n++ {
		for range 30 {
			list = append(list, drawList(r, n))
		}
	}
	return slices.DeleteFunc(list, func(l []api.Named) bool { return !wantValid(l) })
}

// renamed returns the list with another name at an index.
func renamed(list []api.Named, i int, name string) []api.Named {
	list = slices.Clone(list)
	list[i].Name = name
	return list
}

// badNames returns what is no name.
func badNames() []string {
	return []string{
		"", "abcdefghijklmnopq", strings.Repeat("z", 17), strings.Repeat("a", 10000), "A", "Z", "Syntonic", "syntoniC", "syn tonic", " syntonic", "syntonic ", "a1", "1", "0", "a*", "*", "-", "a-b", "a_b",
		"`", "{", "a`", "z{", "{a", "@", "[", "é", "añ", "a\x00", "\x00", "\n", "a\n", "a\t", "\xff", "\x80a", "ａ", "ſ", "a\u212a", "a.b", "a,b",
	}
}

// noIntervals returns rows that are no valid intervals.
func noIntervals() []api.Vec {
	var list []api.Vec
	for _, far := range []int{exp + 1, -exp - 1, 100, api.MaxPart, api.MaxEntry, -api.MaxEntry, api.MaxEntry + 1, 1 << 32, 1 << 60, 1 << 62, math.MaxInt, math.MinInt, math.MinInt + 1} {
		for c := range 6 {
			list = append(list, unit(c, far))
		}
		list = append(list, full(far), api.Vec{1, far, 2, -far, 3, exp})
	}
	return list
}

// noLists returns lists that are not valid.
func noLists() [][]api.Named {
	seven := append(units(6), api.Named{Name: "g", V: full(1)})
	list := [][]api.Named{
		nil, {}, seven, append(slices.Clone(seven), seven...), make([]api.Named, 1), make([]api.Named, 6), make([]api.Named, 7), make([]api.Named, 1000),
		// Names that stand there twice.
		renamed(units(2), 0, "b"), renamed(units(6), 5, "a"), renamed(units(6), 2, "e"), renamed(units(3), 2, "b"), renamed(example(), 1, "syntonic"),
		// Intervals that depend on each other, and unisons.
		named(api.Vec{}), named(unit(0, 1), api.Vec{}), named(api.Vec{}, unit(0, 1)), named(unit(0, 1), unit(0, 1)), named(unit(0, 2), unit(0, 3)), named(api.Vec{-4, 4, -1}, api.Vec{4, -4, 1}), named(api.Vec{-4, 4, -1}, api.Vec{-15, 8, 1}, api.Vec{-19, 12}), named(api.Vec{1, 2, 3}, api.Vec{4, 5, 6}, api.Vec{7, 8, 9}),
		named(unit(0, 1), unit(1, 1), unit(2, 1), unit(3, 1), unit(4, 1), api.Vec{1, 1, 1, 1, 1}), named(unit(0, 1), unit(1, 1), unit(2, 1), unit(3, 1), unit(4, 1), api.Vec{}), named(unit(5, 1), unit(4, 1), api.Vec{0, 0, 0, 0, 3, -7}, unit(0, 1)),
		// Volumes above MaxVolume.
		named(full(exp), api.Vec{-exp, exp, exp, exp, exp, exp}, api.Vec{exp, -exp, exp, exp, exp, exp}, unit(5, 42)), named(full(exp), api.Vec{-exp, exp, exp, exp, exp, exp}, api.Vec{exp, -exp, exp, exp, exp, exp}, api.Vec{exp, exp, -exp, exp, exp, exp}),
		named(unit(0, exp), unit(1, exp), unit(2, exp), unit(3, exp), unit(4, exp), unit(5, exp)), named(unit(0, 31), unit(1, 32), unit(2, 32), unit(3, 32), unit(4, 32), unit(5, 32)),
	}
	for _, name := range badNames() {
		list = append(list, renamed(units(1), 0, name), renamed(units(3), 1, name), renamed(units(6), 5, name), renamed(example(), 0, name))
	}
	for _, v := range noIntervals() {
		list = append(list, named(v), named(unit(0, 1), v), named(v, unit(1, 1), unit(2, 1)))
	}
	return list
}

// proper is the form of a name.
var proper = regexp.MustCompile(`^[a-z]{1,16}$`)

// wantValid reports whether a list is valid.
func wantValid(list []api.Named) bool {
	names := map[string]bool{}
	volume := big.NewInt(1)
	for _, x := range list {
		if !proper.MatchString(x.Name) || !within(x.V[:], exp) {
			return false
		}
		names[x.Name] = true
		sum := 0
		for _, e := range x.V {
			sum += max(e, -e)
		}
		volume.Mul(volume, big.NewInt(int64(max(sum, 1))))
	}
	if len(list) < 1 || len(list) > 6 || len(names) < len(list) || volume.Cmp(big.NewInt(1000000000)) > 0 {
		return false
	}
	_, independent := solved(list, api.Vec{})
	return independent
}

// solved returns by which numbers the intervals of a list are to be multiplied so that their sum is v (nil, if there are none), and whether the intervals do not depend on each other.
func solved(list []api.Named, v api.Vec) ([]*big.Rat, bool) {
	n := len(list)
	equations := make([][]*big.Rat, 6)
	for c := range equations {
		for _, x := range list {
			equations[c] = append(equations[c], big.NewRat(int64(x.V[c]), 1))
		}
		equations[c] = append(equations[c], big.NewRat(int64(v[c]), 1))
	}
	for i := range n {
		lead := slices.IndexFunc(equations[i:], func(row []*big.Rat) bool { return row[i].Sign() != 0 })
		if lead < 0 {
			return nil, false
		}
		equations[i], equations[i+lead] = equations[i+lead], equations[i]
		for c, row := range equations {
			if c != i {
				subtract(row, equations[i], new(big.Rat).Quo(row[i], equations[i][i]))
			}
		}
	}
	var numbers []*big.Rat
	for i, row := range equations {
		if i < n {
			numbers = append(numbers, new(big.Rat).Quo(row[n], row[i]))
		} else if row[n].Sign() != 0 {
			return nil, true
		}
	}
	return numbers, true
}

// subtract takes b, times n, from a.
func subtract(a, b []*big.Rat, n *big.Rat) {
	for i, e := range b {
		a[i].Sub(a[i], new(big.Rat).Mul(n, e))
	}
}

// wantCounts returns what Counts is to return for a valid list and a valid interval.
func wantCounts(list []api.Named, v api.Vec) ([]int, api.Errno) {
	numbers, _ := solved(list, v)
	if numbers == nil || slices.ContainsFunc(numbers, func(n *big.Rat) bool { return !n.IsInt() }) {
		return nil, api.ErrNone
	}
	var counts []int
	for _, n := range numbers {
		counts = append(counts, int(n.Num().Int64()))
	}
	if !within(counts, most) {
		return nil, api.ErrRange
	}
	return counts, api.OK
}

// wantSum returns what Sum is to return for an account of a valid list.
func wantSum(list []api.Named, counts []int) (api.Vec, api.Errno) {
	var v api.Vec
	for i, n := range counts {
		v = plus(v, list[i].V, n)
	}
	if !within(v[:], exp) {
		return api.Vec{}, api.ErrRange
	}
	return v, api.OK
}

// entry is the form of an entry of a text.
var entry = regexp.MustCompile(`^([a-z]{1,16})\*(-?[1-9][0-9]{0,3})$`)

// wantParse returns what Parse is to return for a valid list.
func wantParse(list []api.Named, s string) ([]int, api.Errno) {
	counts := make([]int, len(list))
	if s == "1" {
		return counts, api.OK
	}
	last := -1
	for _, part := range strings.Split(s, " ") {
		found := entry.FindStringSubmatch(part)
		if found == nil {
			return nil, api.ErrForm
		}
		i := slices.IndexFunc(list, func(x api.Named) bool { return x.Name == found[1] })
		n, err := strconv.Atoi(found[2])
		if i <= last || err != nil || n < -1000 || n > 1000 {
			return nil, api.ErrForm
		}
		counts[i], last = n, i
	}
	return counts, api.OK
}

// drawCounts returns counts for a list: all small, or some great, or some 0.
func drawCounts(r *rand.Rand, list []api.Named) []int {
	top := []int{1, 2, 5, 30, most}[r.IntN(5)]
	var counts []int
	for range list {
		n := number(r, top)
		switch r.IntN(6) {
		case 0:
			n = 0
		case 1:
			n = []int{most, -most, 1, -1, 10, 100, -100, 999}[r.IntN(8)]
		}
		counts = append(counts, n)
	}
	return counts
}

// drawIntervals returns valid intervals to ask for with a valid list: sums of multiples of its intervals, their neighbours, and others.
func drawIntervals(r *rand.Rand, list []api.Named) []api.Vec {
	found := []api.Vec{{}, list[0].V, full(exp), unit(r.IntN(6), exp), unit(r.IntN(6), -exp), unit(r.IntN(6), 1), drawRow(r, 3), drawRow(r, exp)}
	for range 8 {
		var v api.Vec
		top := []int{1, 2, 5}[r.IntN(3)]
		for _, x := range list {
			v = plus(v, x.V, number(r, top))
		}
		found = append(found, v, plus(v, unit(r.IntN(6), 1), 1-2*r.IntN(2)))
		for r.IntN(4) > 0 { // a sum of many multiples which is small
			x := list[r.IntN(len(list))].V
			if more := plus(v, x, 1-2*r.IntN(2)); within(more[:], exp) {
				v = more
			}
		}
		found = append(found, v, drawInside(r, list))
	}
	return slices.DeleteFunc(found, func(v api.Vec) bool { return !within(v[:], exp) })
}

// drawInside returns an interval whose exponents are 0 where those of the whole list are.
func drawInside(r *rand.Rand, list []api.Named) api.Vec {
	v := drawRow(r, exp)
	for c := range v {
		if !slices.ContainsFunc(list, func(x api.Named) bool { return x.V[c] != 0 }) {
			v[c] = 0
		}
	}
	return v
}

// drawTakes returns n takes that are valid for a list of so many commas.
func drawTakes(r *rand.Rand, commas, n int) []api.Take {
	var takes []api.Take
	for i := range n {
		t := api.Take{Section: i + 1, Comma: r.IntN(commas), Count: number(r, 1), Desk: r.IntN(8)}
		if t.Count == 0 {
			t.Comma = 0
		}
		takes = append(takes, t)
	}
	return takes
}

// wantTaken reports whether takes are valid for a list of so many commas.
func wantTaken(commas int, takes []api.Take) bool {
	for i, t := range takes {
		good := t.Section == i+1 && 0 <= t.Desk && t.Desk <= 7
		switch t.Count {
		case 0:
			good = good && t.Comma == 0
		case 1, -1:
			good = good && 0 <= t.Comma && t.Comma < commas
		default:
			good = false
		}
		if !good || i >= 15 {
			return false
		}
	}
	return true
}

// wantWalk returns what Walk is to return for a valid list and valid takes.
func wantWalk(list []api.Named, takes []api.Take) ([]api.Vec, api.Errno) {
	var shifts []api.Vec
	for k := range len(takes) + 1 {
		v, e := wantSum(list, tally(len(list), takes[:k]))
		if e != api.OK {
			return nil, e
		}
		shifts = append(shifts, v)
	}
	return shifts, api.OK
}

// tally returns how often each of so many commas was taken, less how often it was given back.
func tally(commas int, takes []api.Take) []int {
	counts := make([]int, commas)
	for _, t := range takes {
		counts[t.Comma] += t.Count
	}
	return counts
}

// noTakes returns takes that are not valid for a list of two commas.
func noTakes() [][]api.Take {
	good := []api.Take{{Section: 1, Comma: 1, Count: 1, Desk: 7}, {Section: 2}, {Section: 3, Comma: 0, Count: -1, Desk: 3}}
	var list [][]api.Take
	for i, t := range good {
		var changed []api.Take
		for _, section := range []int{0, i, i + 2, -i - 1, i + 16, math.MaxInt, math.MinInt} {
			changed = append(changed, api.Take{Section: section, Comma: t.Comma, Count: t.Count, Desk: t.Desk})
		}
		for _, comma := range []int{-1, 2, 3, 6, math.MaxInt, math.MinInt} {
			changed = append(changed, api.Take{Section: i + 1, Comma: comma, Count: 1, Desk: t.Desk}, api.Take{Section: i + 1, Comma: comma, Count: -1, Desk: t.Desk}, api.Take{Section: i + 1, Comma: comma, Desk: t.Desk})
		}
		for _, count := range []int{-2, 2, 3, 1000, math.MaxInt, math.MinInt} {
			changed = append(changed, api.Take{Section: i + 1, Comma: 0, Count: count, Desk: t.Desk}, api.Take{Section: i + 1, Comma: 1, Count: count, Desk: t.Desk})
		}
		for _, desk := range []int{-1, 8, 9, math.MaxInt, math.MinInt} {
			changed = append(changed, api.Take{Section: i + 1, Comma: t.Comma, Count: t.Count, Desk: desk}, api.Take{Section: i + 1, Desk: desk})
		}
		changed = append(changed, api.Take{Section: i + 1, Comma: 1})
		for _, t := range changed {
			takes := slices.Clone(good)
			takes[i] = t
			list = append(list, takes, takes[:i+1])
		}
	}
	r := source()
	return append(list, make([]api.Take, 1), drawTakes(r, 2, 16), drawTakes(r, 2, 17), drawTakes(r, 1, 16), drawTakes(r, 2, 100), drawTakes(r, 2, 15)[1:])
}
