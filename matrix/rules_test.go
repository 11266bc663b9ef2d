package matrix_test

import (
	"go/ast"
	"go/parser"
	"go/token"
	"math"
	"os"
	"slices"
	"strings"
	"testing"

	"schisma/api"
	"schisma/matrix"
)

// TestP1Anything checks that no call panics, whatever it is called with, and that each has the error, alone, exactly if what it is called with is not valid.
func TestP1Anything(t *testing.T) {
	r := source()
	anything := func() int {
		if r.IntN(6) == 0 {
			return []int{math.MinInt, math.MaxInt, entry, -entry, entry + 1, -entry - 1, 1 << 32, 2, 1, -1}[r.IntN(10)]
		}
		return int(r.Uint64()) >> (24 + r.IntN(41))
	}
	count := map[bool]int{}
	for range 20000 {
		rows := make([]api.Vec, r.IntN(11))
		for i := range rows {
			if r.IntN(3) > 0 {
				rows[i] = drawRow(r, 1+r.IntN(20))
			}
			if r.IntN(8) == 0 {
				rows[i][r.IntN(6)] = anything()
			}
		}
		good := valid(rows)
		count[good]++
		form, e := matrix.Hermite(rows)
		n, f := matrix.Rank(rows)
		list, g := matrix.Divisors(rows)
		left, h := matrix.Kernel(rows)
		if matrix.Valid(rows) != good || (e == api.OK) != good || f != e || g != e || h != e {
			t.Fatalf("%v: %v, %v, %v, %v, %v", rows, matrix.Valid(rows), e, f, g, h)
		}
		if !good && (e != api.ErrArg || len(form)+n+len(list)+len(left) > 0) {
			t.Fatalf("%v: %v, %v, %v, %v with the %v", rows, form, n, list, left, e)
		}
	}
	if count[true] < 1000 || count[false] < 1000 {
		t.Errorf("%d are valid, %d are not", count[true], count[false])
	}
}

// TestArgumentsStay checks that no call changes the rows, nor what is behind them in their memory.
func TestArgumentsStay(t *testing.T) {
	for _, rows := range append(matrices(), invalid()...) {
		behind := append(slices.Clone(rows), api.Vec{1, 2, 3, 4, 5, 6}, api.Vec{7})
		keep := slices.Clone(behind)
		part := behind[:len(rows)]
		matrix.Valid(part)
		matrix.Hermite(part)
		matrix.Rank(part)
		matrix.Divisors(part)
		matrix.Kernel(part)
		if !slices.Equal(behind, keep) {
			t.Fatalf("%v was changed to %v", keep, behind)
		}
	}
}

// TestResultsAreNew checks that changing a result changes neither the rows nor later results.
func TestResultsAreNew(t *testing.T) {
	for _, rows := range matrices() {
		keep := slices.Clone(rows)
		for name, f := range map[string]func([]api.Vec) []api.Vec{"Hermite": hermite, "Kernel": kernel} {
			got := f(rows)
			want := slices.Clone(got)
			for i := range got {
				got[i] = api.Vec{9, 9, 9, 9, 9, 9}
			}
			_ = append(got, api.Vec{1}, api.Vec{2})
			if again := f(rows); !slices.Equal(again, want) || !slices.Equal(rows, keep) {
				t.Fatalf("%s of %v: %v, then %v", name, keep, want, again)
			}
		}
		list := divisors(rows)
		want := slices.Clone(list)
		clear(list)
		_ = append(list, 1, 2, 3)
		if again := divisors(rows); !slices.Equal(again, want) || !slices.Equal(rows, keep) {
			t.Fatalf("Divisors of %v: %v, then %v", keep, want, again)
		}
	}
}

// TestWaysFeatures checks that the package is built with the features that the section 'Ways' lists.
func TestWaysFeatures(t *testing.T) {
	entries, err := os.ReadDir(".")
	if err != nil {
		t.Fatal(err)
	}
	var files []*ast.File
	sequences, generic := map[string]bool{}, map[string]bool{}
	for _, entry := range entries {
		if name := entry.Name(); strings.HasSuffix(name, ".go") && !strings.HasSuffix(name, "_test.go") {
			file, err := parser.ParseFile(token.NewFileSet(), name, nil, 0)
			if err != nil {
				t.Fatal(err)
			}
			files = append(files, file)
			for _, d := range file.Decls {
				if f, ok := d.(*ast.FuncDecl); ok {
					sequences[f.Name.Name] = returnsSequence(f)
					generic[f.Name.Name] = f.Type.TypeParams != nil
				}
			}
		}
	}
	missing := map[string]bool{"range-function": true, "closure": true, "generic-function": true}
	for _, file := range files {
		ast.Inspect(file, func(n ast.Node) bool {
			switch x := n.(type) {
			case *ast.RangeStmt:
				if calls(x.X, sequences) {
					delete(missing, "range-function")
				}
			case *ast.AssignStmt:
				if callsItself(x) {
					delete(missing, "closure")
				}
			case ast.Expr:
				if calls(x, generic) {
					delete(missing, "generic-function")
				}
			}
			return true
		})
	}
	for name := range missing {
		t.Errorf("%s is not used", name)
	}
}

// returnsSequence reports whether a function of a package returns one that can be ranged over.
func returnsSequence(f *ast.FuncDecl) bool {
	if f.Type.Results == nil || len(f.Type.Results.List) != 1 {
		return false
	}
	result, ok := f.Type.Results.List[0].Type.(*ast.IndexExpr)
	if !ok {
		return false
	}
	name, ok := result.X.(*ast.SelectorExpr)
	return ok && name.Sel.Name == "Seq"
}

// calls reports whether x is a call of one of the functions.
func calls(x ast.Expr, functions map[string]bool) bool {
	call, ok := x.(*ast.CallExpr)
	if !ok {
		return false
	}
	f, ok := call.Fun.(*ast.Ident)
	return ok && functions[f.Name]
}

// callsItself reports whether a closure is assigned to a variable by whose name it calls itself.
func callsItself(x *ast.AssignStmt) bool {
	name, ok := x.Lhs[0].(*ast.Ident)
	if !ok {
		return false
	}
	f, ok := x.Rhs[0].(*ast.FuncLit)
	if !ok {
		return false
	}
	found := false
	ast.Inspect(f.Body, func(n ast.Node) bool {
		if e, ok := n.(ast.Expr); ok && calls(e, map[string]bool{name.Name: true}) {
			found = true
		}
		return true
	})
	return found
}
