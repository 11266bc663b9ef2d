package pitch_test

import (
	"fmt"
	"go/ast"
	"go/parser"
	"go/token"
	"math"
	"os"
	"slices"
	"strings"
	"testing"

	"schisma/api"
	"schisma/pitch"
)

// TestP1Arguments checks that what is no pitch is refused before anything else is wrong.
func TestP1Arguments(t *testing.T) {
	for _, bad := range outside(part) {
		for _, good := range []api.Pitch{{}, {12}, {1, 576, -576}, {576, 576, 576, 576, 576, 576}, bad} {
			for _, x := range [][2]api.Pitch{{bad, good}, {good, bad}} {
				p, e := pitch.Mul(x[0], x[1])
				refused(t, fmt.Sprint("Mul of ", x), p, e, api.ErrArg)
				p, e = pitch.Div(x[0], x[1])
				refused(t, fmt.Sprint("Div of ", x), p, e, api.ErrArg)
			}
		}
		for _, x := range [][2]int{{1, 1}, {0, 1}, {1, 12}, {576, 1}, {577, 0}, {5, 7}, {math.MinInt, math.MinInt}} {
			p, e := pitch.Power(bad, x[0], x[1])
			refused(t, fmt.Sprint("Power of ", bad, x), p, e, api.ErrArg)
		}
	}
}

// alone checks that a pitch is valid, or comes with an error and is the unison.
func alone(t *testing.T, p api.Pitch, e api.Errno) {
	t.Helper()
	if e != api.OK && p != (api.Pitch{}) || !valid(p, part) {
		t.Fatalf("%v with the %v", p, e)
	}
}

// TestP1Anything checks that no call panics, whatever it is called with, and that an error comes alone.
func TestP1Anything(t *testing.T) {
	r := source()
	any := func() int {
		if r.IntN(4) == 0 {
			return []int{math.MinInt, math.MaxInt, part, -part, part + 1, whole, 0, 1, -1, 12}[r.IntN(10)]
		}
		return int(r.Uint64()) >> r.IntN(64)
	}
	anything := func() [6]int {
		if r.IntN(2) == 0 {
			return draw(r, part>>r.IntN(10))
		}
		return [6]int{any(), any(), any(), any(), any(), any()}
	}
	for range 50000 {
		a, b := api.Pitch(anything()), api.Pitch(anything())
		for _, f := range []func(a, b api.Pitch) (api.Pitch, api.Errno){pitch.Mul, pitch.Div} {
			p, e := f(a, b)
			alone(t, p, e)
		}
		p, e := pitch.Power(a, any(), any())
		alone(t, p, e)
		p, e = pitch.Of(api.Vec(a))
		alone(t, p, e)
		v, e := pitch.Whole(a)
		alone(t, api.Pitch(v), e)
		v, e = pitch.Ratio(any(), any())
		alone(t, api.Pitch(v), e)
		if n, e := pitch.Cmp(a, b); e != api.OK && n != 0 || n < -1 || n > 1 {
			t.Fatalf("Cmp of %v and %v: %d, %v", a, b, n, e)
		}
		if n, d, e := pitch.Fraction(api.Vec(a)); (e == api.OK) != (len(n) > 0 && len(d) > 0) {
			t.Fatalf("Fraction of %v: %v, %v, %v", a, n, d, e)
		}
		s, _ := pitch.Text(a)
		p, e = pitch.Parse(s)
		alone(t, p, e)
	}
}

// TestFractionsAreNew checks that changing a numerator or denominator changes no other one, nor a later one.
func TestFractionsAreNew(t *testing.T) {
	for _, v := range intervals() {
		n, d, _ := pitch.Fraction(v)
		keepN, keepD := slices.Clone(n), slices.Clone(d)
		n[0]++
		_ = append(n, 1, 2, 3)
		if !slices.Equal(d, keepD) {
			t.Fatalf("the parts of the fraction of %v share memory", v)
		}
		d[0]++
		_ = append(d, 1, 2, 3)
		if n[0] != keepN[0]+1 || !slices.Equal(n[1:], keepN[1:]) {
			t.Fatalf("the parts of the fraction of %v share memory", v)
		}
		againN, againD, _ := pitch.Fraction(v)
		if !slices.Equal(againN, keepN) || !slices.Equal(againD, keepD) {
			t.Fatalf("the fraction of %v depends on an earlier one", v)
		}
	}
}

// TestWaysFeatures checks that the package is built with the features that the section 'Ways' lists.
func TestWaysFeatures(t *testing.T) {
	entries, err := os.ReadDir(".")
	if err != nil {
		t.Fatal(err)
	}
	var files []*ast.File
	ranged := map[string]bool{}
	for _, entry := range entries {
		if name := entry.Name(); strings.HasSuffix(name, ".go") && !strings.HasSuffix(name, "_test.go") {
			file, err := parser.ParseFile(token.NewFileSet(), name, nil, 0)
			if err != nil {
				t.Fatal(err)
			}
			files = append(files, file)
			for _, d := range file.Decls {
				if f, ok := d.(*ast.FuncDecl); ok && returnsSequence(f) {
					ranged[f.Name.Name] = true
				}
			}
		}
	}
	missing := map[string]bool{"range-function": true, "variadic": true, "closure": true}
	for _, file := range files {
		ast.Inspect(file, func(n ast.Node) bool {
			delete(missing, feature(n, ranged))
			return true
		})
	}
	for name := range missing {
		t.Errorf("%s is not used", name)
	}
}

// returnsSequence reports whether a function of a package returns one that can be ranged over.
func returnsSequence(f *ast.FuncDecl) bool {
	if f.Type.Results == nil || len(f.Type.Results.List) != 1 {
		return false
	}
	result, ok := f.Type.Results.List[0].Type.(*ast.IndexExpr)
	if !ok {
		return false
	}
	name, ok := result.X.(*ast.SelectorExpr)
	return ok && name.Sel.Name == "Seq"
}

// feature returns the word of the section 'Ways' for a piece of source of a package with the given functions that return sequences.
func feature(n ast.Node, ranged map[string]bool) string {
	switch x := n.(type) {
	case *ast.RangeStmt:
		if call, ok := x.X.(*ast.CallExpr); ok {
			if f, ok := call.Fun.(*ast.Ident); ok && ranged[f.Name] {
				return "range-function"
			}
		}
	case *ast.Ellipsis:
		if x.Elt != nil {
			return "variadic"
		}
	case *ast.FuncLit:
		return "closure"
	}
	return ""
}
