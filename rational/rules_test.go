package rational_test

import (
	"fmt"
	"go/ast"
	"go/parser"
	"go/token"
	"math"
	"os"
	"strings"
	"testing"

	"schisma/api"
	"schisma/rational"
)

// operations returns the calls with two numbers, by their names.
func operations() map[string]call {
	return map[string]call{"Add": rational.Add, "Sub": rational.Sub, "Mul": rational.Mul, "Div": rational.Div, "Simple": rational.Simple}
}

// TestP1Arguments checks that what is no number is refused before anything else is wrong.
func TestP1Arguments(t *testing.T) {
	for _, bad := range invalid() {
		for _, good := range append(edges(), bad, of(0, 0)) {
			for _, pair := range [][2]api.Rat{{bad, good}, {good, bad}} {
				for name, f := range operations() {
					got, e := f(pair[0], pair[1])
					refused(t, fmt.Sprint(name, " of ", pair), got, e, api.ErrArg)
				}
				n, e := rational.Cmp(pair[0], pair[1])
				refused(t, fmt.Sprint("Cmp of ", pair), n, e, api.ErrArg)
			}
		}
		n, e := rational.Floor(bad)
		refused(t, fmt.Sprint("Floor of ", bad), n, e, api.ErrArg)
		s, e := rational.Text(bad)
		refused(t, fmt.Sprint("Text of ", bad), s, e, api.ErrArg)
		for _, top := range []int{math.MinInt, -1, 0, 1, 12, most, most + 1, math.MaxInt} {
			a, e := rational.Near(bad, top)
			refused(t, fmt.Sprint("Near of ", bad), a, e, api.ErrArg)
		}
	}
}

// TestP1OrderOfErrors checks calls for which several errors apply.
func TestP1OrderOfErrors(t *testing.T) {
	zero := of(0, 1)
	got, e := rational.Make(math.MaxInt, 0)
	refused(t, "Make of a great number and 0", got, e, api.ErrZero)
	for _, a := range edges() {
		got, e = rational.Div(a, zero)
		refused(t, fmt.Sprint("Div by 0 of ", a), got, e, api.ErrZero)
	}
	for _, bad := range invalid() {
		got, e = rational.Div(bad, zero)
		refused(t, fmt.Sprint("Div by 0 of ", bad), got, e, api.ErrArg)
	}
}

func TestNearWithOtherBounds(t *testing.T) {
	for _, top := range []int{0, -1, -12, -most, most + 1, 1 << 32, 1<<32 + 1, math.MaxInt, math.MinInt} {
		for _, a := range edges() {
			got, e := rational.Near(a, top)
			refused(t, fmt.Sprint("Near of ", a, " with at most ", top), got, e, api.ErrArg)
		}
	}
}

func TestSimpleOfNothing(t *testing.T) {
	list := sorted(numbers())
	for i, low := range list {
		for _, high := range list[:i] {
			got, e := rational.Simple(low, high)
			refused(t, fmt.Sprint("Simple of ", low, high), got, e, api.ErrArg)
		}
	}
}

// TestP1Anything checks that no call panics, whatever it is called with, and that an error comes alone.
func TestP1Anything(t *testing.T) {
	r := source()
	any := func() int {
		n := int(r.Uint64()) >> r.IntN(64)
		if r.IntN(4) == 0 {
			n = []int{math.MinInt, math.MaxInt, most, -most, most + 1, 0, 1, -1}[r.IntN(8)]
		}
		return n
	}
	alone := func(a api.Rat, e api.Errno) {
		if (e != api.OK || !rational.Valid(a)) && a != (api.Rat{}) || e == api.OK && !rational.Valid(a) {
			t.Fatalf("%v with the %v", a, e)
		}
	}
	for range 200000 {
		a, b := of(any(), any()), of(any(), any())
		alone(rational.Make(a.N, a.D))
		if r.IntN(2) == 0 {
			a, b = draw(r, most>>r.IntN(29)), draw(r, most>>r.IntN(29))
		}
		for _, f := range operations() {
			alone(f(a, b))
		}
		alone(rational.Near(a, any()))
		rational.Cmp(a, b)
		rational.Floor(a)
		s, _ := rational.Text(a)
		alone(rational.Parse(s))
	}
}

// TestWaysFeatures checks that the package is built with the features that the section 'Ways' lists.
func TestWaysFeatures(t *testing.T) {
	entries, err := os.ReadDir(".")
	if err != nil {
		t.Fatal(err)
	}
	var files []*ast.File
	types := map[string]bool{}
	for _, entry := range entries {
		if name := entry.Name(); strings.HasSuffix(name, ".go") && !strings.HasSuffix(name, "_test.go") {
			file, err := parser.ParseFile(token.NewFileSet(), name, nil, 0)
			if err != nil {
				t.Fatal(err)
			}
			files = append(files, file)
			ast.Inspect(file, func(n ast.Node) bool {
				if x, ok := n.(*ast.TypeSpec); ok {
					types[x.Name.Name] = true
				}
				return true
			})
		}
	}
	missing := map[string]bool{"panic": true, "recover": true, "defer": true, "assertion": true, "method-expression": true, "generic-function": true}
	for _, file := range files {
		ast.Inspect(file, func(n ast.Node) bool {
			delete(missing, feature(n, types))
			return true
		})
	}
	for name := range missing {
		t.Errorf("%s is not used", name)
	}
}

// feature returns the word of the section 'Ways' for a piece of source of a package with the given types.
func feature(n ast.Node, types map[string]bool) string {
	switch x := n.(type) {
	case *ast.CallExpr:
		if f, ok := x.Fun.(*ast.Ident); ok && (f.Name == "panic" || f.Name == "recover") {
			return f.Name
		}
	case *ast.DeferStmt:
		return "defer"
	case *ast.TypeAssertExpr:
		if x.Type != nil {
			return "assertion"
		}
	case *ast.SelectorExpr:
		if of, ok := x.X.(*ast.Ident); ok && types[of.Name] {
			return "method-expression"
		}
	case *ast.FuncDecl:
		if x.Type.TypeParams != nil {
			return "generic-function"
		}
	}
	return ""
}
