package size_test

import (
	"fmt"
	"go/ast"
	"go/parser"
	"go/token"
	"math"
	"os"
	"strings"
	"testing"

	"schisma/api"
	"schisma/pitch"
	"schisma/size"
)

// TestP1Sizes checks that what is no size is refused before anything else is wrong.
func TestP1Sizes(t *testing.T) {
	goods := append(sizes(), of(most, most), of(-most, -most))
	for _, bad := range invalid() {
		for _, good := range append(goods, bad) {
			for _, x := range [][2]api.Size{{bad, good}, {good, bad}} {
				for name, f := range map[string]func(a, b api.Size) (api.Size, api.Errno){"Add": size.Add, "Sub": size.Sub, "Meet": size.Meet} {
					got, e := f(x[0], x[1])
					refused(t, fmt.Sprint(name, " of ", x), got, e, api.ErrArg)
				}
				n, e := size.Cmp(x[0], x[1])
				refused(t, fmt.Sprint("Cmp of ", x), n, e, api.ErrArg)
			}
		}
		for _, n := range []int{0, 1, -1, 2, most, most + 1, math.MaxInt, math.MinInt} {
			got, e := size.Times(bad, n)
			refused(t, fmt.Sprint("Times of ", bad, n), got, e, api.ErrArg)
		}
		for _, x := range [][2]int{{0, 0}, {math.MinInt, math.MaxInt}, {-most, most}, {1, 0}, {bad.Lo, bad.Hi}, {bad.Hi, bad.Lo}} {
			n, e := size.Within(bad, x[0], x[1])
			refused(t, fmt.Sprint("Within of ", bad, x), n, e, api.ErrArg)
		}
	}
}

// TestP1Pitches checks that what is no pitch is refused, also where the gap would be one of pitches.
func TestP1Pitches(t *testing.T) {
	for _, bad := range noPitches() {
		for _, good := range []api.Pitch{{}, {12}, {576, -576, 576, -576, 576, -576}, {-576, -576, -576, -576, -576, -576}, bad} {
			for _, x := range [][2]api.Pitch{{bad, good}, {good, bad}} {
				got, e := size.Gap(x[0], x[1])
				refused(t, fmt.Sprint("Gap of ", x), got, e, api.ErrArg)
				for _, bound := range []int{0, 1, api.MaxStep, -1, api.MaxStep + 1} {
					n, e := size.Near(x[0], x[1], bound)
					refused(t, fmt.Sprint("Near of ", x, bound), n, e, api.ErrArg)
				}
			}
		}
	}
}

// TestP1Anything checks that no call panics, whatever it is called with, and that an error comes alone.
func TestP1Anything(t *testing.T) {
	r := source()
	anything := func() int {
		if r.IntN(4) == 0 {
			return []int{math.MinInt, math.MaxInt, most, -most, most + 1, part, -part, api.MaxStep, 0, 1, -1}[r.IntN(11)]
		}
		return int(r.Uint64()) >> r.IntN(64)
	}
	alone := func(a api.Size, e api.Errno) {
		if e != api.OK && a != (api.Size{}) || !size.Valid(a) {
			t.Fatalf("%v with the %v", a, e)
		}
	}
	sign := func(n int, e api.Errno) {
		if e != api.OK && n != 0 || n < -1 || n > 1 {
			t.Fatalf("%d with the %v", n, e)
		}
	}
	for range 100000 {
		a, b := of(anything(), anything()), of(anything(), anything())
		if r.IntN(2) == 0 {
			a, b = draw(r, most), draw(r, most)
		}
		p, q := api.Pitch{anything(), anything(), anything(), anything(), anything(), anything()}, api.Pitch{anything()}
		if r.IntN(2) == 0 {
			p, q = exponents(r, part), exponents(r, part)
		}
		alone(size.Of(p))
		alone(size.Add(a, b))
		alone(size.Sub(a, b))
		alone(size.Times(a, anything()))
		sign(size.Cmp(a, b))
		sign(size.Within(a, anything(), anything()))
		alone(size.Meet(a, b))
		alone(size.Gap(p, q))
		sign(size.Near(p, q, anything()))
	}
}

// TestArgumentsStay checks that no call changes what later calls return.
func TestArgumentsStay(t *testing.T) {
	p, q := api.Pitch{-12, 12, 7}, api.Pitch{3, 0, -5}
	first := must(size.Gap(p, q))
	for _, a := range pitches() {
		size.Of(a)
		size.Gap(a, p)
		size.Near(q, a, 100000)
	}
	if again := must(size.Gap(p, q)); again != first || p != (api.Pitch{-12, 12, 7}) || !pitch.Valid(q) {
		t.Errorf("Gap of %v and %v: %v, then %v", p, q, first, again)
	}
}

// TestWaysFeatures checks that the package is built with the features that the section 'Ways' lists.
func TestWaysFeatures(t *testing.T) {
	entries, err := os.ReadDir(".")
	if err != nil {
		t.Fatal(err)
	}
	var files []*ast.File
	types := map[string]bool{}
	for _, entry := range entries {
		if name := entry.Name(); strings.HasSuffix(name, ".go") && !strings.HasSuffix(name, "_test.go") {
			file, err := parser.ParseFile(token.NewFileSet(), name, nil, 0)
			if err != nil {
				t.Fatal(err)
			}
			files = append(files, file)
			ast.Inspect(file, func(n ast.Node) bool {
				if x, ok := n.(*ast.TypeSpec); ok {
					types[x.Name.Name] = true
				}
				return true
			})
		}
	}
	missing := map[string]bool{"constant-table": true, "array": true, "method-expression": true}
	for _, file := range files {
		for _, d := range file.Decls {
			if isTable(d) {
				delete(missing, "constant-table")
			}
		}
		ast.Inspect(file, func(n ast.Node) bool {
			delete(missing, feature(n, types))
			return true
		})
	}
	for name := range missing {
		t.Errorf("%s is not used", name)
	}
}

// isTable reports whether a declaration is that of a variable with a literal of several values.
func isTable(d ast.Decl) bool {
	list, ok := d.(*ast.GenDecl)
	if !ok || list.Tok != token.VAR {
		return false
	}
	for _, s := range list.Specs {
		for _, x := range s.(*ast.ValueSpec).Values {
			if _, ok := x.(*ast.CompositeLit); ok {
				return true
			}
		}
	}
	return false
}

// feature returns the word of the section 'Ways' for a piece of source of a package with the given types.
func feature(n ast.Node, types map[string]bool) string {
	switch x := n.(type) {
	case *ast.ArrayType:
		if x.Len != nil {
			return "array"
		}
	case *ast.SelectorExpr:
		if of, ok := x.X.(*ast.Ident); ok && types[of.Name] {
			return "method-expression"
		}
	}
	return ""
}
