package temper_test

import (
	"go/ast"
	"go/parser"
	"go/token"
	"math"
	"os"
	"slices"
	"strings"
	"testing"

	"schisma/api"
	"schisma/temper"
)

// expectRefused checks that a temperament, an interval and generators are refused by all functions that take them.
func expectRefused(t *testing.T, m api.Map, gens []api.Pitch, v api.Vec) {
	t.Helper()
	expectImage(t, m, v, nil, api.ErrArg)
	expectTune(t, m, gens, v, api.Pitch{}, api.ErrArg)
}

// TestP1Maps checks that what is no temperament is refused, whatever the other arguments are.
func TestP1Maps(t *testing.T) {
	vectors := append([]api.Vec{{}, full(exp), unit(2, -exp), {-4, 4, -1}}, noIntervals()[:3]...)
	for _, m := range noMaps() {
		expectKernel(t, m, nil, api.ErrArg)
		for _, v := range vectors {
			for _, n := range []int{0, 1, len(m.Rows)} {
				expectRefused(t, m, make([]api.Pitch, n), v)
			}
			expectRefused(t, m, drawGenerators(source(), len(m.Rows)), v)
		}
	}
}

// TestP1Intervals checks that what is no interval is refused, whatever the temperament and the generators are.
func TestP1Intervals(t *testing.T) {
	for _, v := range noIntervals() {
		for _, m := range special() {
			expectRefused(t, m, make([]api.Pitch, len(m.Rows)), v)
			expectRefused(t, m, nil, v)
		}
		for _, commas := range [][]api.Vec{{v}, append(units(0, 1, 2), v), append(units(0, 1, 2, 3, 4), v), {v, full(1), v}, append(units(0, 1, 2, 3, 4, 5), v)} {
			expectFrom(t, commas, api.Map{}, api.ErrArg)
		}
	}
}

// TestP1Generators checks that generators that are too few, too many or no pitches are refused.
func TestP1Generators(t *testing.T) {
	for _, m := range special() {
		for n := range 6 {
			if n != len(m.Rows) {
				expectTune(t, m, make([]api.Pitch, n), api.Vec{}, api.Pitch{}, api.ErrArg)
				expectTune(t, m, drawGenerators(source(), n), full(exp), api.Pitch{}, api.ErrArg)
			}
		}
		for _, bad := range noPitches() {
			for i := range m.Rows {
				gens := make([]api.Pitch, len(m.Rows))
				gens[i] = bad
				expectTune(t, m, gens, api.Vec{}, api.Pitch{}, api.ErrArg)
				expectTune(t, m, gens, full(exp), api.Pitch{}, api.ErrArg)
			}
		}
	}
}

// TestP1Bounds checks the intervals and pitches that are just valid.
func TestP1Bounds(t *testing.T) {
	for c := range 6 {
		for _, sign := range []int{1, -1} {
			expectImage(t, twelve(), unit(c, sign*exp), []int{sign * exp * twelve().Rows[0][c]}, api.OK)
			expectTune(t, of(unit(c, sign)), []api.Pitch{api.Pitch(unit(c, part))}, unit(c, 1), api.Pitch(unit(c, sign*part)), api.OK)
			expectFrom(t, append(units(0, 1, 2, 3, 4, 5), unit(c, sign*exp)), api.Map{}, api.ErrNone)
		}
	}
}

// TestP1Anything checks that no call panics, whatever it is called with, and that an error comes alone.
func TestP1Anything(t *testing.T) {
	r := source()
	anything := func() int {
		if r.IntN(4) == 0 {
			return []int{math.MinInt, math.MaxInt, most, -most, most + 1, exp + 1, -exp - 1, part + 1, api.MaxEntry + 1, 1 << 32}[r.IntN(10)]
		}
		return int(r.Uint64()) >> (24 + r.IntN(41))
	}
	drawAny := func(least, greatest int) []api.Vec {
		rows := make([]api.Vec, least+r.IntN(greatest-least+1))
		for i := range rows {
			if r.IntN(20) > 0 {
				rows[i] = drawRow(r, 1+r.IntN(20))
			}
			if r.IntN(20) == 0 {
				rows[i][r.IntN(6)] = anything()
			}
		}
		return rows
	}
	count := map[api.Errno]int{}
	for range 20000 {
		m := of(drawAny(0, 4)...)
		commas := drawAny(1, 9)
		v := drawAny(1, 1)[0]
		var gens []api.Pitch
		for _, row := range drawAny(len(m.Rows), len(m.Rows)+r.IntN(5)/4) {
			gens = append(gens, api.Pitch(row))
		}
		valid := temper.Valid(m)
		list, e := temper.Image(m, v)
		none, f := temper.Tempers(m, v)
		kernel, g := temper.Kernel(m)
		made, h := temper.From(commas)
		p, i := temper.Tune(m, gens, v)
		pure, j := temper.Pure(m, gens, v)
		if valid != wantValid(m) || valid != (g == api.OK) || (e == api.OK) != (valid && within(v, exp)) || f != e || e != api.OK && (len(list) > 0 || none) || g != api.OK && len(kernel) > 0 || h != api.OK && len(made.Rows) > 0 || i != api.OK && p != (api.Pitch{}) || j != i || j != api.OK && pure || e != api.OK && i != e {
			t.Fatalf("%v, %v, %v, %v: %v; %v, %v; %v, %v; %v, %v; %v, %v; %v, %v; %v, %v", m, v, gens, commas, valid, list, e, none, f, kernel, g, made, h, p, i, pure, j)
		}
		for _, e := range []api.Errno{e, g, h, i} {
			count[e]++
		}
	}
	for _, e := range []api.Errno{api.OK, api.ErrArg, api.ErrRange, api.ErrNone} {
		if count[e] < 1000 {
			t.Errorf("%v came only %d times", e, count[e])
		}
	}
}

// TestArgumentsStay checks that no call changes its arguments, nor what is behind them in their memory.
func TestArgumentsStay(t *testing.T) {
	r := source()
	list := append(temperaments(), noMaps()...)
	for _, m := range list {
		rows := append(slices.Clone(m.Rows), api.Vec{1, 2, 3, 4, 5, 6}, api.Vec{7})
		gens := append(drawGenerators(r, len(m.Rows)), api.Pitch{6, 5, 4, 3, 2, 1}, api.Pitch{8})
		keepRows, keepGens := slices.Clone(rows), slices.Clone(gens)
		part, some := of(rows[:len(m.Rows)]...), gens[:len(m.Rows)]
		temper.Valid(part)
		temper.Image(part, api.Vec{1, 2, 3})
		temper.Tempers(part, api.Vec{1, 2, 3})
		temper.Kernel(part)
		temper.From(part.Rows)
		temper.Tune(part, some, api.Vec{1, 2, 3})
		temper.Pure(part, some, api.Vec{1, 2, 3})
		if !slices.Equal(rows, keepRows) || !slices.Equal(gens, keepGens) {
			t.Fatalf("%v was changed to %v, or %v to %v", keepRows, rows, keepGens, gens)
		}
	}
}

// TestResultsAreNew checks that changing a result changes neither the arguments nor later results.
func TestResultsAreNew(t *testing.T) {
	for _, m := range append(temperaments(), of(units(3, 4, 5)...)) {
		keep := slices.Clone(m.Rows)
		v := api.Vec{1, -2, 3, -4, 5, -6}
		image, kernel, made := results(m, v)
		wantImage, wantKernel, wantMade := slices.Clone(image), slices.Clone(kernel), slices.Clone(made)
		for i := range image {
			image[i] = 99
		}
		for _, rows := range [][]api.Vec{kernel, made} {
			for i := range rows {
				rows[i] = full(9)
			}
			_ = append(rows, api.Vec{1}, api.Vec{2})
		}
		_ = append(image, 1, 2, 3)
		image, kernel, made = results(m, v)
		if !slices.Equal(image, wantImage) || !slices.Equal(kernel, wantKernel) || !slices.Equal(made, wantMade) || !slices.Equal(m.Rows, keep) {
			t.Fatalf("%v: %v, then %v; %v, then %v; %v, then %v", keep, wantImage, image, wantKernel, kernel, wantMade, made)
		}
	}
}

// results returns the image of v, the kernel, and the rows of the temperament made from the kernel's rows, or from the rows of m, as far as there is one.
func results(m api.Map, v api.Vec) ([]int, []api.Vec, []api.Vec) {
	image, _ := temper.Image(m, v)
	kernel, _ := temper.Kernel(m)
	made, e := temper.From(kernel)
	if e != api.OK {
		made, _ = temper.From(m.Rows)
	}
	return image, kernel, made.Rows
}

// TestWaysFeatures checks that the package is built with the features that the section 'Ways' lists.
func TestWaysFeatures(t *testing.T) {
	missing := map[string]bool{"embedding": true, "promoted": true, "method-value": true}
	files := parsed(t)
	methods := map[string]bool{}
	for _, file := range files {
		for _, d := range file.Decls {
			if f, ok := d.(*ast.FuncDecl); ok && f.Recv != nil {
				methods[f.Name.Name] = true
			}
		}
	}
	for _, file := range files {
		called := map[ast.Node]bool{}
		ast.Inspect(file, func(n ast.Node) bool {
			switch x := n.(type) {
			case *ast.TypeSpec:
				if x.Name.Name == "temperament" && embedsMap(x) {
					delete(missing, "embedding")
				}
			case *ast.CallExpr:
				called[x.Fun] = true
			case *ast.SelectorExpr:
				receiver, ok := x.X.(*ast.Ident)
				if ok && receiver.Name == "t" && x.Sel.Name == "Rows" {
					delete(missing, "promoted")
				}
				if methods[x.Sel.Name] && !called[x] {
					delete(missing, "method-value")
				}
			}
			return true
		})
	}
	for name := range missing {
		t.Errorf("%s is not used", name)
	}
}

// embedsMap reports whether a type is a struct that embeds an api.Map.
func embedsMap(x *ast.TypeSpec) bool {
	s, ok := x.Type.(*ast.StructType)
	if !ok || len(s.Fields.List) == 0 || len(s.Fields.List[0].Names) > 0 {
		return false
	}
	name, ok := s.Fields.List[0].Type.(*ast.SelectorExpr)
	return ok && name.Sel.Name == "Map"
}

// parsed returns the files of the package without its tests.
func parsed(t *testing.T) []*ast.File {
	entries, err := os.ReadDir(".")
	if err != nil {
		t.Fatal(err)
	}
	var files []*ast.File
	for _, entry := range entries {
		if name := entry.Name(); strings.HasSuffix(name, ".go") && !strings.HasSuffix(name, "_test.go") {
			file, err := parser.ParseFile(token.NewFileSet(), name, nil, 0)
			if err != nil {
				t.Fatal(err)
			}
			files = append(files, file)
		}
	}
	return files
}
