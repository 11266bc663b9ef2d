package comma_test

import (
	"go/ast"
	"go/parser"
	"go/token"
	"math"
	"math/rand/v2"
	"os"
	"slices"
	"strings"
	"testing"

	"schisma/api"
	"schisma/comma"
)

// TestP1Lists checks that a list that is not valid is refused by all functions, whatever the other arguments are.
func TestP1Lists(t *testing.T) {
	for _, list := range noLists() {
		zeros := make([]int, len(list))
		expectFind(t, list, "a", 0, api.ErrArg)
		expectSum(t, list, zeros, api.Vec{}, api.ErrArg)
		expectSum(t, list, nil, api.Vec{}, api.ErrArg)
		expectSum(t, list, append(zeros, 2000), api.Vec{}, api.ErrArg)
		expectCounts(t, list, api.Vec{}, nil, api.ErrArg)
		expectCounts(t, list, unit(0, 1), nil, api.ErrArg)
		expectCounts(t, list, full(exp+1), nil, api.ErrArg)
		expectText(t, list, zeros, "", api.ErrArg)
		expectText(t, list, []int{1}, "", api.ErrArg)
		expectParse(t, list, "1", nil, api.ErrArg)
		expectParse(t, list, "", nil, api.ErrArg)
		expectWalk(t, list, nil, nil, api.ErrArg)
		expectWalk(t, list, steps(0), nil, api.ErrArg)
		expectWalk(t, list, make([]api.Take, 16), nil, api.ErrArg)
		for _, x := range list {
			expectSum(t, list, []int{1}, api.Vec{}, api.ErrArg)
			expectCounts(t, list, x.V, nil, api.ErrArg)
		}
	}
}

// anything returns an integer of any size.
func anything(r *rand.Rand) int {
	if r.IntN(4) == 0 {
		return []int{math.MinInt, math.MaxInt, most, -most, most + 1, exp + 1, -exp - 1, 16, 8, 1 << 32}[r.IntN(10)]
	}
	return int(r.Uint64()) >> (24 + r.IntN(41))
}

// drawAnything returns arguments that may not be valid.
func drawAnything(r *rand.Rand) (list []api.Named, counts []int, v api.Vec, takes []api.Take) {
	n := r.IntN(8)
	if n > 0 && n < 7 {
		list = drawList(r, n)
	} else {
		list = units(6)[:n%7]
	}
	v = drawInside(r, list)
	if r.IntN(2) == 0 && len(list) > 0 {
		v = drawIntervals(r, list)[1]
	}
	takes = drawTakes(r, max(len(list), 1), r.IntN(17))
	counts = drawCounts(r, list)
	switch r.IntN(12) {
	case 0:
		v[r.IntN(6)] = anything(r)
	case 1:
		counts = append(counts, anything(r))
	case 2:
		takes = append(takes, api.Take{Section: len(takes) + 1, Comma: anything(r), Count: anything(r), Desk: anything(r)})
	case 3:
		list = append(list, api.Named{Name: "a", V: full(anything(r))})
	case 4:
		list = append(list, api.Named{Name: badNames()[r.IntN(len(badNames()))], V: drawRow(r, 2)})
	}
	return list, counts, v, takes
}

// TestP1Anything checks that no call panics, whatever it is called with, and that an error comes alone.
func TestP1Anything(t *testing.T) {
	r := source()
	count := map[api.Errno]int{}
	for range 6000 {
		list, counts, v, takes := drawAnything(r)
		text := strings.Repeat("a*1 ", r.IntN(3)) + "b*-2"
		valid := comma.Valid(list)
		i, e := comma.Find(list, "a")
		got, f := comma.Counts(list, v)
		sum, g := comma.Sum(list, counts)
		s, h := comma.Text(list, counts)
		read, j := comma.Parse(list, text)
		shifts, k := comma.Walk(list, takes)
		if valid != wantValid(list) || !valid && (e != api.ErrArg || f != api.ErrArg || g != api.ErrArg || h != api.ErrArg || j != api.ErrArg || k != api.ErrArg) {
			t.Fatalf("%v: %v, %v, %v, %v, %v, %v, %v", list, valid, e, f, g, h, j, k)
		}
		if e != api.OK && i != 0 || f != api.OK && len(got) > 0 || g != api.OK && sum != (api.Vec{}) || h != api.OK && s != "" || j != api.OK && len(read) > 0 || k != api.OK && len(shifts) > 0 {
			t.Fatalf("%v: %v, %v; %v, %v; %v, %v; %q, %v; %v, %v; %v, %v", list, i, e, got, f, sum, g, s, h, read, j, shifts, k)
		}
		if valid && ((f == api.ErrArg) == within(v[:], exp) || (g == api.ErrArg) != (h == api.ErrArg) || (k == api.ErrArg) == wantTaken(len(list), takes)) {
			t.Fatalf("%v: %v, %v; %v, %v, %v; %v, %v", list, v, f, counts, g, h, takes, k)
		}
		for _, e := range []api.Errno{e, f, g, h, j, k} {
			count[e]++
		}
	}
	for _, e := range []api.Errno{api.OK, api.ErrArg, api.ErrRange, api.ErrNone, api.ErrForm} {
		if count[e] < 1000 {
			t.Errorf("%v came only %d times", e, count[e])
		}
	}
}

// TestArgumentsStay checks that no call changes its arguments, nor what is behind them in their memory.
func TestArgumentsStay(t *testing.T) {
	r := source()
	for _, list := range append(lists(), noLists()...) {
		behind := append(slices.Clone(list), api.Named{Name: "behind", V: full(7)}, api.Named{Name: "more"})
		counts := append(drawCounts(r, list), 17, 18)
		takes := append(drawTakes(r, max(len(list), 1), 3), api.Take{Section: 9, Comma: 9, Count: 9, Desk: 9}, api.Take{Section: 8})
		keepList, keepCounts, keepTakes := slices.Clone(behind), slices.Clone(counts), slices.Clone(takes)
		part, some, few := behind[:len(list)], counts[:len(list)], takes[:3]
		comma.Valid(part)
		comma.Find(part, "schisma")
		comma.Counts(part, api.Vec{1, 2, 3})
		comma.Sum(part, some)
		comma.Text(part, some)
		comma.Parse(part, "a*1 b*2")
		comma.Walk(part, few)
		if !slices.Equal(behind, keepList) || !slices.Equal(counts, keepCounts) || !slices.Equal(takes, keepTakes) {
			t.Fatalf("%v was changed to %v, %v to %v, or %v to %v", keepList, behind, keepCounts, counts, keepTakes, takes)
		}
	}
}

// TestResultsAreNew checks that changing a result changes neither the arguments nor later results.
func TestResultsAreNew(t *testing.T) {
	r := source()
	for _, list := range lists() {
		keep := slices.Clone(list)
		takes := drawTakes(r, len(list), 2)
		account := make([]int, len(list))
		account[0] = 1
		text, _ := comma.Text(list, account)
		results := func() ([]int, []int, []api.Vec) {
			counts, _ := comma.Counts(list, list[0].V)
			read, _ := comma.Parse(list, text)
			shifts, _ := comma.Walk(list, takes)
			return counts, read, shifts
		}
		counts, read, shifts := results()
		wantShifts := slices.Clone(shifts)
		for _, numbers := range [][]int{counts, read} {
			if !slices.Equal(numbers, account) {
				t.Errorf("%v: %v; want %v", list, numbers, account)
			}
			for i := range numbers {
				numbers[i] = 99
			}
			_ = append(numbers, 1, 2, 3)
		}
		for i := range shifts {
			shifts[i] = full(9)
		}
		_ = append(shifts, api.Vec{1}, api.Vec{2})
		counts, read, shifts = results()
		if !slices.Equal(counts, account) || !slices.Equal(read, account) || !slices.Equal(shifts, wantShifts) || !slices.Equal(list, keep) {
			t.Fatalf("%v: %v, %v, %v; want %v, %v", keep, counts, read, shifts, account, wantShifts)
		}
	}
}

// TestWaysFeatures checks that the package is built with the features that the section 'Ways' lists.
func TestWaysFeatures(t *testing.T) {
	missing := map[string]bool{"range-function": true, "map": true, "closure": true}
	files := parsed(t)
	sequences := map[string]bool{}
	for _, file := range files {
		for _, d := range file.Decls {
			if f, ok := d.(*ast.FuncDecl); ok && returnsSequence(f) {
				sequences[f.Name.Name] = true
			}
		}
	}
	for _, file := range files {
		ast.Inspect(file, func(n ast.Node) bool {
			switch x := n.(type) {
			case *ast.RangeStmt:
				call, ok := x.X.(*ast.CallExpr)
				if !ok {
					break
				}
				if f, ok := call.Fun.(*ast.Ident); ok && sequences[f.Name] {
					delete(missing, "range-function")
				}
			case *ast.MapType:
				if key, ok := x.Key.(*ast.Ident); ok && key.Name == "string" {
					delete(missing, "map")
				}
			case *ast.FuncLit:
				if choosesError(x) {
					delete(missing, "closure")
				}
			}
			return true
		})
	}
	for name := range missing {
		t.Errorf("%s is not used", name)
	}
}

// returnsSequence reports whether a function returns one that can be ranged over.
func returnsSequence(f *ast.FuncDecl) bool {
	if f.Type.Results == nil || len(f.Type.Results.List) != 1 {
		return false
	}
	result, ok := f.Type.Results.List[0].Type.(*ast.IndexListExpr)
	if !ok {
		return false
	}
	name, ok := result.X.(*ast.SelectorExpr)
	return ok && name.Sel.Name == "Seq2"
}

// choosesError reports whether a closure returns an error that it chooses by a switch.
func choosesError(f *ast.FuncLit) bool {
	if f.Type.Results == nil || len(f.Type.Results.List) != 1 {
		return false
	}
	result, ok := f.Type.Results.List[0].Type.(*ast.SelectorExpr)
	return ok && result.Sel.Name == "Errno" && slices.ContainsFunc(f.Body.List, func(s ast.Stmt) bool {
		_, ok := s.(*ast.SwitchStmt)
		return ok
	})
}

// parsed returns the files of the package without its tests.
func parsed(t *testing.T) []*ast.File {
	entries, err := os.ReadDir(".")
	if err != nil {
		t.Fatal(err)
	}
	var files []*ast.File
	for _, entry := range entries {
		if name := entry.Name(); strings.HasSuffix(name, ".go") && !strings.HasSuffix(name, "_test.go") {
			file, err := parser.ParseFile(token.NewFileSet(), name, nil, 0)
			if err != nil {
				t.Fatal(err)
			}
			files = append(files, file)
		}
	}
	return files
}
