package lattice_test

import (
	"go/ast"
	"go/parser"
	"go/token"
	"math"
	"os"
	"slices"
	"strings"
	"testing"

	"schisma/api"
	"schisma/lattice"
	"schisma/matrix"
)

// TestP1Vectors checks that what is no vector is refused, whatever the rows are.
func TestP1Vectors(t *testing.T) {
	for _, bad := range noVectors() {
		for _, rows := range append(special(), noMatrices()...) {
			expectMember(t, rows, bad, nil, api.Vec{}, api.ErrArg)
			expectOrder(t, rows, bad, 0, api.ErrArg)
		}
	}
}

// TestP1Matrices checks that what is no matrix is refused, whatever the other argument is: also where it would be the same, or exceed a limit, or not be there.
func TestP1Matrices(t *testing.T) {
	goods := append(special(), row(1, 2), far(), row(600000000))
	for _, bad := range noMatrices() {
		for _, v := range []api.Vec{{}, {1}, {entry, -entry}, {0, 1, 2, 3, 4, 5}} {
			expectMember(t, bad, v, nil, api.Vec{}, api.ErrArg)
			expectOrder(t, bad, v, 0, api.ErrArg)
		}
		for _, good := range append(goods, bad) {
			for _, x := range [][2][]api.Vec{{bad, good}, {good, bad}} {
				if got, e := lattice.Same(x[0], x[1]); got || e != api.ErrArg {
					t.Errorf("Same of %v: %v, %v", x, got, e)
				}
				expectSum(t, x[0], x[1], nil, api.ErrArg)
				expectIndex(t, x[0], x[1], 0, api.ErrArg)
			}
		}
	}
}

// TestP1Bounds checks the vectors and rows that are just valid.
func TestP1Bounds(t *testing.T) {
	for c := range 6 {
		for _, n := range []int{entry, -entry} {
			expectMember(t, nil, unit(c, n), nil, unit(c, n), api.OK)
			expectMember(t, []api.Vec{unit(c, 1)}, unit(c, n), []int{n}, api.Vec{}, api.OK)
			expectOrder(t, []api.Vec{unit(c, n)}, unit(c, 1), entry, api.OK)
			expectIndex(t, []api.Vec{unit(c, n)}, []api.Vec{unit(c, 1)}, entry, api.OK)
		}
	}
	expectMember(t, zeros(8), api.Vec{entry, entry, -entry, entry, -entry, -entry}, nil, api.Vec{entry, entry, -entry, entry, -entry, -entry}, api.OK)
}

// TestP1Anything checks that no call panics, whatever it is called with, and that an error comes alone.
func TestP1Anything(t *testing.T) {
	r := source()
	anything := func() int {
		if r.IntN(4) == 0 {
			return []int{math.MinInt, math.MaxInt, entry, -entry, entry + 1, -entry - 1, 1 << 32, 2, 1, -1}[r.IntN(10)]
		}
		return int(r.Uint64()) >> (24 + r.IntN(41))
	}
	drawAny := func() []api.Vec {
		rows := zeros(r.IntN(10))
		for i := range rows {
			if r.IntN(3) > 0 {
				rows[i] = drawRow(r, 1+r.IntN(20))
			}
			if r.IntN(12) == 0 {
				rows[i][r.IntN(6)] = anything()
			}
		}
		return rows
	}
	count := map[api.Errno]int{}
	for range 20000 {
		a, b := drawAny(), drawAny()
		v := drawRow(r, entry)
		if r.IntN(4) == 0 {
			v[r.IntN(6)] = anything()
		}
		good := matrix.Valid(a) && inside(v)
		list, in, e := lattice.Member(a, v)
		rest, f := lattice.Reduce(a, v)
		order, g := lattice.Order(a, v)
		if (e == api.ErrArg) == good || f != e || (g == api.ErrArg) == good || !in && len(list) > 0 || e != api.OK && (in || rest != api.Vec{}) || g != api.OK && order != 0 {
			t.Fatalf("%v, %v: %v, %v, %v; %v, %v; %d, %v", a, v, list, in, e, rest, f, order, g)
		}
		good = matrix.Valid(a) && matrix.Valid(b)
		same, h := lattice.Same(a, b)
		form, i := lattice.Sum(a, b)
		index, j := lattice.Index(a, b)
		if (h == api.OK) != good || (i == api.ErrArg) == good || (j == api.ErrArg) == good || h != api.OK && same || i != api.OK && len(form) > 0 || j != api.OK && index != 0 {
			t.Fatalf("%v, %v: %v, %v; %v, %v; %d, %v", a, b, same, h, form, i, index, j)
		}
		for _, e := range []api.Errno{e, g, h, i, j} {
			count[e]++
		}
	}
	for _, e := range []api.Errno{api.OK, api.ErrArg, api.ErrLimit, api.ErrRange, api.ErrNone} {
		if count[e] < 1000 {
			t.Errorf("%v came only %d times", e, count[e])
		}
	}
}

// TestArgumentsStay checks that no call changes the rows, nor what is behind them in their memory.
func TestArgumentsStay(t *testing.T) {
	list := append(matrices(), noMatrices()...)
	for i, rows := range list {
		other := list[(i*7+1)%len(list)]
		behind := append(slices.Clone(rows), api.Vec{1, 2, 3, 4, 5, 6}, api.Vec{7})
		keep := slices.Clone(behind)
		keepOther := slices.Clone(other)
		part := behind[:len(rows)]
		lattice.Member(part, api.Vec{1, 2, 3})
		lattice.Reduce(part, api.Vec{1, 2, 3})
		lattice.Order(part, api.Vec{1, 2, 3})
		for _, x := range [][2][]api.Vec{{part, other}, {other, part}, {part, part}, {part, behind[len(rows):]}, {behind[len(rows):], part}} {
			lattice.Same(x[0], x[1])
			lattice.Sum(x[0], x[1])
			lattice.Index(x[0], x[1])
		}
		if !slices.Equal(behind, keep) || !slices.Equal(other, keepOther) {
			t.Fatalf("%v was changed to %v, or %v to %v", keep, behind, keepOther, other)
		}
	}
}

// TestResultsAreNew checks that changing a result changes neither the rows nor later results.
func TestResultsAreNew(t *testing.T) {
	for _, rows := range matrices() {
		keep := slices.Clone(rows)
		form, _ := lattice.Sum(rows, nil)
		wantForm := slices.Clone(form)
		for i := range form {
			form[i] = api.Vec{9, 9, 9, 9, 9, 9}
		}
		_ = append(form, api.Vec{1}, api.Vec{2})
		list, in, _ := lattice.Member(rows, sum(rows, make([]int, len(rows))))
		wantList := slices.Clone(list)
		for i := range list {
			list[i] = 7
		}
		_ = append(list, 1, 2, 3)
		again, _ := lattice.Sum(rows, nil)
		listAgain, _, _ := lattice.Member(rows, api.Vec{})
		if !in || !slices.Equal(again, wantForm) || !slices.Equal(listAgain, wantList) || !slices.Equal(rows, keep) {
			t.Fatalf("%v: %v, then %v; %v, then %v", keep, wantForm, again, wantList, listAgain)
		}
	}
}

// TestWaysFeatures checks that the package is built with the features that the section 'Ways' lists.
func TestWaysFeatures(t *testing.T) {
	files := parsed(t)
	sequences, methods := map[string]bool{}, map[string]bool{}
	for _, file := range files {
		for _, d := range file.Decls {
			if f, ok := d.(*ast.FuncDecl); ok {
				sequences[f.Name.Name] = returnsSequence(f)
				methods[f.Name.Name] = f.Recv != nil
			}
		}
	}
	missing := map[string]bool{"range-function": true, "closure": true, "embedding": true, "method-value": true}
	for _, file := range files {
		called := map[ast.Node]bool{}
		ast.Inspect(file, func(n ast.Node) bool {
			switch x := n.(type) {
			case *ast.CallExpr:
				called[x.Fun] = true
			case *ast.RangeStmt:
				if call, ok := x.X.(*ast.CallExpr); ok {
					if f, ok := call.Fun.(*ast.SelectorExpr); ok && sequences[f.Sel.Name] {
						delete(missing, "range-function")
					}
				}
			case *ast.AssignStmt:
				if name, ok := x.Lhs[0].(*ast.Ident); ok && name.Name == "ends" {
					if _, ok := x.Rhs[0].(*ast.FuncLit); ok {
						delete(missing, "closure")
					}
				}
			case *ast.StructType:
				for _, field := range x.Fields.List {
					if len(field.Names) == 0 {
						delete(missing, "embedding")
					}
				}
			case *ast.SelectorExpr:
				if methods[x.Sel.Name] && !called[x] {
					delete(missing, "method-value")
				}
			}
			return true
		})
	}
	for name := range missing {
		t.Errorf("%s is not used", name)
	}
}

// parsed returns the files of the package without its tests.
func parsed(t *testing.T) []*ast.File {
	entries, err := os.ReadDir(".")
	if err != nil {
		t.Fatal(err)
	}
	var files []*ast.File
	for _, entry := range entries {
		if name := entry.Name(); strings.HasSuffix(name, ".go") && !strings.HasSuffix(name, "_test.go") {
			file, err := parser.ParseFile(token.NewFileSet(), name, nil, 0)
			if err != nil {
				t.Fatal(err)
			}
			files = append(files, file)
		}
	}
	return files
}

// returnsSequence reports whether a function of a package returns one that can be ranged over.
func returnsSequence(f *ast.FuncDecl) bool {
	if f.Type.Results == nil || len(f.Type.Results.List) != 1 {
		return false
	}
	result, ok := f.Type.Results.List[0].Type.(*ast.IndexExpr)
	if !ok {
		return false
	}
	name, ok := result.X.(*ast.SelectorExpr)
	return ok && name.Sel.Name == "Seq"
}
