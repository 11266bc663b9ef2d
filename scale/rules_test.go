package scale_test

import (
	"go/ast"
	"go/parser"
	"go/token"
	"math"
	"math/rand/v2"
	"os"
	"slices"
	"strings"
	"testing"

	"schisma/api"
	"schisma/scale"
)

// TestP1Scales checks that a list that is no valid scale is refused by all functions, whatever the other arguments are.
func TestP1Scales(t *testing.T) {
	for _, s := range noScales() {
		expectSteps(t, s, nil, api.ErrArg)
		for _, degree := range []int{0, 1, -1, len(s) - 1, len(s), 64, math.MaxInt} {
			expectMode(t, s, degree, nil, api.ErrArg)
		}
		for _, p := range append(slices.Clone(s), unison, octave, api.Pitch{5}, api.Pitch{0, 372}, full(576), full(577), full(math.MinInt)) {
			expectDegree(t, s, p, 0, 0, api.ErrArg)
			expectNearest(t, s, p, 0, 0, api.ErrArg)
		}
	}
}

// TestP1Pitches checks that what is no valid pitch is refused, whatever the scale is.
func TestP1Pitches(t *testing.T) {
	for _, p := range noPitches() {
		for _, s := range [][]api.Pitch{equal(1), three(), equal(12), long(64), nil, long(65)} {
			expectDegree(t, s, p, 0, 0, api.ErrArg)
			expectNearest(t, s, p, 0, 0, api.ErrArg)
		}
	}
}

// anything returns an integer of any size.
func anything(r *rand.Rand) int {
	if r.IntN(4) == 0 {
		return []int{math.MinInt, math.MaxInt, part, -part, part + 1, -part - 1, most, most + 1, 1 << 32, 12}[r.IntN(10)]
	}
	return int(r.Uint64()) >> (24 + r.IntN(41))
}

// drawAnything returns arguments that may not be valid.
func drawAnything(r *rand.Rand) (s []api.Pitch, p api.Pitch, n int) {
	s = drawScale(r, 1+r.IntN(6), 1+r.IntN(300))
	p, n = draw(r, 1+r.IntN(200)), r.IntN(12)
	if r.IntN(2) == 0 {
		p = times(s[r.IntN(len(s))], octave, number(r, 3))
	}
	switch r.IntN(10) {
	case 0:
		p[r.IntN(6)] = anything(r)
	case 1:
		n = anything(r)
	case 2:
		s[r.IntN(len(s))][r.IntN(6)] = anything(r)
	case 3:
		s = s[r.IntN(len(s)+1):]
	case 4:
		s = append(s, p)
	case 5:
		s = slices.Repeat(s, r.IntN(80))
	}
	return s, p, n
}

// TestP1Anything checks that no call panics, whatever it is called with, and that an error comes alone.
func TestP1Anything(t *testing.T) {
	r := source()
	count := map[api.Errno]int{}
	for range 6000 {
		s, p, n := drawAnything(r)
		valid := scale.Valid(s)
		q, o, e := scale.Octave(p)
		chain, f := scale.Chain(p, n)
		steps, g := scale.Steps(s)
		mode, h := scale.Mode(s, n)
		degree, above, i := scale.Degree(s, p)
		near, higher, j := scale.Nearest(s, p)
		if e != api.OK && (q != unison || o != 0) || f != api.OK && len(chain) > 0 || g != api.OK && len(steps) > 0 || h != api.OK && len(mode) > 0 || i != api.OK && (degree != 0 || above != 0) || j != api.OK && (near != 0 || higher != 0) {
			t.Fatalf("%v, %v, %d: %v, %d, %v; %v, %v; %v, %v; %v, %v; %d, %d, %v; %d, %d, %v", s, p, n, q, o, e, chain, f, steps, g, mode, h, degree, above, i, near, higher, j)
		}
		good := fits(p)
		if valid != wantValid(s) || (e == api.ErrArg) == good || (f == api.ErrArg) != (!good || n < 1 || n > most) || (g == api.ErrArg) == valid || (h == api.ErrArg) != (!valid || n < 0 || n >= len(s)) || (i == api.ErrArg) != (!valid || !good) || (j == api.ErrArg) != (i == api.ErrArg) {
			t.Fatalf("%v, %v, %d: %v, %v, %v, %v, %v, %v, %v", s, p, n, valid, e, f, g, h, i, j)
		}
		for _, e := range []api.Errno{e, f, g, h, i, j} {
			count[e]++
		}
	}
	for _, e := range []api.Errno{api.OK, api.ErrArg, api.ErrRange, api.ErrNone, api.ErrTwice} {
		if count[e] < 200 {
			t.Errorf("%v came only %d times", e, count[e])
		}
	}
}

// TestArgumentsStay checks that no call changes its arguments, nor what is behind them in their memory.
func TestArgumentsStay(t *testing.T) {
	for _, s := range append(scales(), noScales()...) {
		behind := append(slices.Clone(s), full(7), full(8), full(9))
		keep := slices.Clone(behind)
		some := behind[:len(s)]
		scale.Valid(some)
		scale.Steps(some)
		for _, degree := range []int{0, 1, len(s) - 1} {
			scale.Mode(some, degree)
		}
		scale.Degree(some, api.Pitch{0, 12})
		scale.Nearest(some, api.Pitch{0, 12})
		scale.Nearest(some, api.Pitch{11})
		if !slices.Equal(behind, keep) {
			t.Fatalf("%v was changed to %v", keep, behind)
		}
	}
}

// TestResultsAreNew checks that changing a result changes neither the arguments nor later results.
func TestResultsAreNew(t *testing.T) {
	for _, s := range scales() {
		keep := slices.Clone(s)
		results := func() [][]api.Pitch {
			chain, _ := scale.Chain(api.Pitch{0, 5}, len(s)/2+1)
			steps, _ := scale.Steps(s)
			whole, _ := scale.Mode(s, 0)
			last, _ := scale.Mode(s, len(s)-1)
			return [][]api.Pitch{chain, steps, whole, last}
		}
		var want [][]api.Pitch
		for _, list := range results() {
			want = append(want, slices.Clone(list))
			for i := range list {
				list[i] = full(9)
			}
			_ = append(list, unison, octave)
		}
		if !slices.EqualFunc(results(), want, slices.Equal) || !slices.Equal(s, keep) {
			t.Fatalf("%v, or what is returned for it, was changed: %v", keep, s)
		}
	}
}

// TestWaysFeatures checks that the package is built with the features that the section 'Ways' lists.
func TestWaysFeatures(t *testing.T) {
	missing := map[string]bool{"closure": true, "range-integer": true, "array-compared": true}
	for name, f := range functions(t) {
		ast.Inspect(f, func(n ast.Node) bool {
			switch x := n.(type) {
			case *ast.CallExpr:
				if name == "octaves" && halves(x) {
					delete(missing, "closure")
				}
			case *ast.RangeStmt:
				if over, ok := x.X.(*ast.Ident); ok && name == "powers" && over.Name == "n" {
					delete(missing, "range-integer")
				}
			case *ast.BinaryExpr:
				if y, ok := x.Y.(*ast.Ident); ok && x.Op == token.NEQ && y.Name == "unison" {
					delete(missing, "array-compared")
				}
			}
			return true
		})
	}
	for name := range missing {
		t.Errorf("%s is not used", name)
	}
}

// halves reports whether a call is one of the search by halves, with a closure.
func halves(x *ast.CallExpr) bool {
	f, ok := x.Fun.(*ast.SelectorExpr)
	if !ok || f.Sel.Name != "Search" {
		return false
	}
	_, ok = x.Args[len(x.Args)-1].(*ast.FuncLit)
	return ok
}

// functions returns the functions of the package, without its tests, by their names.
func functions(t *testing.T) map[string]*ast.FuncDecl {
	entries, err := os.ReadDir(".")
	if err != nil {
		t.Fatal(err)
	}
	found := map[string]*ast.FuncDecl{}
	for _, entry := range entries {
		if name := entry.Name(); !strings.HasSuffix(name, ".go") || strings.HasSuffix(name, "_test.go") {
			continue
		}
		file, err := parser.ParseFile(token.NewFileSet(), entry.Name(), nil, 0)
		if err != nil {
			t.Fatal(err)
		}
		for _, d := range file.Decls {
			if f, ok := d.(*ast.FuncDecl); ok {
				found[f.Name.Name] = f
			}
		}
	}
	return found
}
