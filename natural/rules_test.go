package natural_test

import (
	"go/ast"
	"go/parser"
	"go/token"
	"os"
	"slices"
	"strings"
	"testing"

	"schisma/api"
	"schisma/natural"
)

// results calls every function that returns numbers, and returns them with the errors.
func results(a, b api.Nat, n int) ([]api.Nat, []api.Errno) {
	sum, e1 := natural.Add(a, b)
	difference, e2 := natural.Sub(a, b)
	product, e3 := natural.Mul(a, b)
	q, r, e4 := natural.Div(a, b)
	power, e5 := natural.Pow(a, n)
	return []api.Nat{sum, difference, product, q, r, power}, []api.Errno{e1, e2, e3, e4, e4, e5}
}

// TestP1Arguments checks that what is no natural number is refused before anything else is wrong.
func TestP1Arguments(t *testing.T) {
	for i, bad := range invalid() {
		for _, good := range []api.Nat{nil, {1}, {7, 7}, greatest(api.MaxLimbs)} {
			for _, pair := range [][2]api.Nat{{bad, good}, {good, bad}, {bad, bad}} {
				list, errors := results(pair[0], pair[1], -1)
				if !natural.Valid(pair[0]) {
					refused(t, "Pow", list[5], errors[5], api.ErrArg)
				}
				for k, x := range list[:5] {
					refused(t, "a call of two numbers", x, errors[k], api.ErrArg)
				}
				if n, e := natural.Cmp(pair[0], pair[1]); n != 0 || e != api.ErrArg {
					t.Errorf("Cmp with the invalid list %d: %d, %v", i, n, e)
				}
			}
		}
		for _, n := range []int{-1, 0, 1, 1 << 62} {
			x, e := natural.Pow(bad, n)
			refused(t, "Pow", x, e, api.ErrArg)
		}
		if s, e := natural.Text(bad); s != "" || e != api.ErrArg {
			t.Errorf("Text of the invalid list %d: %.20q, %v", i, s, e)
		}
	}
}

// TestArgumentsStay checks that no call changes its arguments, nor what lies behind them.
func TestArgumentsStay(t *testing.T) {
	list := numbers()
	for i, a := range list {
		b := list[(i*11+5)%len(list)]
		longA, longB := append(slices.Clone(a), 81, 80), append(slices.Clone(b), 128, 125)
		keepA, keepB := slices.Clone(longA), slices.Clone(longB)
		results(longA[:len(a)], longB[:len(b)], 3)
		natural.Valid(longA[:len(a)])
		order(longA[:len(a)], longB[:len(b)])
		text(longA[:len(a)])
		if !slices.Equal(longA, keepA) || !slices.Equal(longB, keepB) {
			t.Fatalf("%s or %s was changed", brief(a), brief(b))
		}
	}
}

// TestResultsAreNew checks that changing a result changes no argument and no other result.
func TestResultsAreNew(t *testing.T) {
	list := numbers()
	for i, a := range list {
		for _, b := range []api.Nat{list[(i*11+5)%len(list)], nil, {1}, a} {
			a, b := slices.Clone(a), slices.Clone(b)
			keepA, keepB := slices.Clone(a), slices.Clone(b)
			first, _ := results(a, b, 1)
			for k, x := range first {
				others := [][]uint32{a, b}
				for m, y := range first {
					if m != k {
						others = append(others, y)
					}
				}
				apart(t, x, others)
			}
			if !slices.Equal(a, keepA) || !slices.Equal(b, keepB) {
				t.Fatalf("results share memory with %s or %s", brief(keepA), brief(keepB))
			}
			again, _ := results(a, b, 1)
			if !slices.EqualFunc(first, again, slices.Equal[api.Nat]) {
				t.Fatalf("the results of %s and %s depend on earlier ones", brief(a), brief(b))
			}
		}
	}
}

// apart checks that writing into x, and behind it, changes none of others; x is as before afterwards.
func apart(t *testing.T, x api.Nat, others [][]uint32) {
	t.Helper()
	var before [][]uint32
	for _, y := range others {
		before = append(before, slices.Clone(y))
	}
	keep := slices.Clone(x)
	for i := range x {
		x[i]++
	}
	_ = append(x, 1, 2, 3)
	for i, y := range others {
		if !slices.Equal(y, before[i]) {
			t.Fatalf("the result %s shares memory with another list", brief(keep))
		}
	}
	copy(x, keep)
}

// TestWaysCapacity checks that no result has a capacity beyond its length.
func TestWaysCapacity(t *testing.T) {
	list := numbers()
	for i, a := range list {
		found, _ := results(a, list[(i*11+5)%len(list)], 2)
		parsed := must(natural.Parse(text(a)))
		found = append(found, parsed, natural.Make(uint64(i)), natural.Make(uint64(i)<<32))
		for k, x := range found {
			if cap(x) != len(x) {
				t.Errorf("result %d of %s: length %d, capacity %d", k, brief(a), len(x), cap(x))
			}
		}
	}
}

// TestWaysFeatures checks that the package is built with the features that the section 'Ways' lists.
func TestWaysFeatures(t *testing.T) {
	missing := map[string]bool{"panic": true, "recover": true, "defer": true, "assertion": true, "three-index": true, "variadic": true, "closure": true}
	entries, err := os.ReadDir(".")
	if err != nil {
		t.Fatal(err)
	}
	for _, entry := range entries {
		if name := entry.Name(); strings.HasSuffix(name, ".go") && !strings.HasSuffix(name, "_test.go") {
			file, err := parser.ParseFile(token.NewFileSet(), name, nil, 0)
			if err != nil {
				t.Fatal(err)
			}
			ast.Inspect(file, func(n ast.Node) bool {
				delete(missing, feature(n))
				return true
			})
		}
	}
	for name := range missing {
		t.Errorf("%s is not used", name)
	}
}

// feature returns the word of the section 'Ways' for a piece of source.
func feature(n ast.Node) string {
	switch x := n.(type) {
	case *ast.CallExpr:
		if f, ok := x.Fun.(*ast.Ident); ok && (f.Name == "panic" || f.Name == "recover") {
			return f.Name
		}
	case *ast.DeferStmt:
		return "defer"
	case *ast.TypeAssertExpr:
		if x.Type != nil {
			return "assertion"
		}
	case *ast.SliceExpr:
		if x.Slice3 {
			return "three-index"
		}
	case *ast.Ellipsis:
		return "variadic"
	case *ast.FuncLit:
		return "closure"
	}
	return ""
}
