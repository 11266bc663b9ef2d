package board_test

import (
	"go/ast"
	"go/parser"
	"go/token"
	"math"
	"math/rand/v2"
	"os"
	"slices"
	"strings"
	"testing"

	"schisma/api"
	"schisma/board"
)

// TestP1Boards checks that what is no valid keyboard is refused by all functions, whatever the other arguments are.
func TestP1Boards(t *testing.T) {
	for _, b := range noBoards() {
		for _, v := range []api.Vec{{}, fifth, {49}, {math.MinInt}} {
			expectFind(t, b, v, nil, api.ErrArg)
			for _, vs := range [][]api.Vec{nil, {v}, {v, v}, slices.Repeat([]api.Vec{v}, 13)} {
				expectChord(t, b, vs, nil, api.ErrArg)
			}
		}
		for _, ids := range [][]int{nil, {1}, {10, 20}, {1, 1}, {0}, {121, 5}, far()} {
			expectHands(t, b, ids, nil, nil, api.ErrArg)
		}
	}
}

// anything returns an integer of any size.
func anything(r *rand.Rand) int {
	if r.IntN(4) == 0 {
		return []int{math.MinInt, math.MaxInt, 0, 1, -1, 10, 11, 1000, 1001, 50000, 50001, part, part + 1, exp + 1, 1 << 32}[r.IntN(15)]
	}
	return int(r.Uint64()) >> (24 + r.IntN(41))
}

// drawAnything returns arguments that may not be valid.
func drawAnything(r *rand.Rand) (b api.Board, ids []int, vs []api.Vec) {
	b = drawBoard(r, 1+r.IntN(12))
	ids, vs = drawIDs(r, b, r.IntN(6)), drawChord(r, b, 1+r.IntN(3))
	i := r.IntN(len(b.Keys))
	switch r.IntN(16) {
	case 0:
		b.Keys[i].ID = anything(r)
	case 1:
		b.Keys[i].X = anything(r)
	case 2:
		b.Keys[i].Row = anything(r)
	case 3:
		b.Keys[i].P[r.IntN(6)] = anything(r)
	case 4:
		b.Span = anything(r)
	case 5:
		b.Tol = anything(r)
	case 6:
		b.Keys = append(b.Keys, b.Keys[i])
	case 7:
		ids = append(ids, anything(r))
	case 8:
		ids = slices.Repeat(ids, r.IntN(4))
	case 9:
		vs[0][r.IntN(6)] = anything(r)
	case 10:
		vs = slices.Repeat(vs, r.IntN(20))
	case 11:
		b.Keys = slices.Repeat(b.Keys, r.IntN(3))
	}
	return b, ids, vs
}

// known reports whether a list has IDs of keys only, and each one once.
func known(b api.Board, ids []int) bool {
	for _, id := range ids {
		if keyOf(b, id).ID != id || id == 0 {
			return false
		}
	}
	return different(ids)
}

// TestP1Anything checks that no call panics, whatever it is called with, and that an error comes alone, and first.
func TestP1Anything(t *testing.T) {
	r := source()
	count := map[api.Errno]int{}
	for range 6000 {
		b, ids, vs := drawAnything(r)
		v := append(slices.Clone(vs), fifth)[0]
		valid := board.Valid(b)
		found, e := board.Find(b, v)
		left, right, f := board.Hands(b, ids)
		chord, g := board.Chord(b, vs)
		if e != api.OK && len(found) > 0 || f != api.OK && len(left)+len(right) > 0 || g != api.OK && len(chord) > 0 {
			t.Fatalf("%v, %v, %v: %v, %v; %v, %v, %v; %v, %v", b, ids, vs, found, e, left, right, f, chord, g)
		}
		wrong := slices.ContainsFunc(vs, func(v api.Vec) bool { return !intervalFits(v) })
		if valid != wantValid(b) || (e == api.ErrArg) != (!valid || !intervalFits(v)) || (f == api.ErrArg) != (!valid || !known(b, ids)) || (g == api.ErrArg) != (!valid || wrong) {
			t.Fatalf("%v, %v, %v: %v, %v, %v, %v", b, ids, vs, valid, e, f, g)
		}
		for _, e := range []api.Errno{e, f, g} {
			count[e]++
		}
	}
	for _, e := range []api.Errno{api.OK, api.ErrArg, api.ErrLimit, api.ErrNone, api.ErrHand} {
		if count[e] < 50 {
			t.Errorf("%v came only %d times", e, count[e])
		}
	}
}

// TestArgumentsStay checks that no call changes its arguments, nor what is behind them in their memory.
func TestArgumentsStay(t *testing.T) {
	r := source()
	for _, b := range append(drawBoards(r, 100), noBoards()...) {
		keys := append(slices.Clone(b.Keys), api.Key{ID: 1001}, api.Key{ID: 1002})
		ids := append(drawIDs(r, b, 6), 1001, 1002)
		vs := append(drawChord(r, with(b, func(b *api.Board) { b.Tol = 0 }), 3), api.Vec{50}, api.Vec{51})
		keepKeys, keepIDs, keepVs := slices.Clone(keys), slices.Clone(ids), slices.Clone(vs)
		b.Keys = keys[:len(b.Keys)]
		board.Valid(b)
		board.Find(b, vs[0])
		board.Hands(b, ids[:len(ids)-2])
		board.Hands(b, ids)
		board.Chord(b, vs[:3])
		board.Chord(b, vs)
		if !slices.Equal(keys, keepKeys) || !slices.Equal(ids, keepIDs) || !slices.Equal(vs, keepVs) {
			t.Fatalf("%v, %v, %v were changed to %v, %v, %v", keepKeys, keepIDs, keepVs, keys, ids, vs)
		}
	}
}

// TestResultsAreNew checks that changing a result changes neither the arguments nor later results nor another result of the call.
func TestResultsAreNew(t *testing.T) {
	r := source()
	for _, b := range drawBoards(r, 100) {
		ids := drawIDs(r, b, 7)
		vs := drawChord(r, b, 2)
		keepKeys, keepIDs := slices.Clone(b.Keys), slices.Clone(ids)
		results := func() [][]int {
			found, _ := board.Find(b, vs[0])
			left, right, _ := board.Hands(b, ids)
			chord, _ := board.Chord(b, vs)
			return [][]int{found, left, right, chord}
		}
		var want [][]int
		for _, list := range results() {
			want = append(want, slices.Clone(list))
		}
		for i, list := range results() {
			list = list[:cap(list)]
			for j := range list {
				list[j] = -1
			}
			if !slices.EqualFunc(results(), want, slices.Equal) {
				t.Fatalf("%v: later results were changed with the result %d", b, i)
			}
		}
		left, right, _ := board.Hands(b, ids)
		_ = append(left, -3, -4, -5, -6, -7)
		if !slices.Equal(right, want[2]) {
			t.Fatalf("the right hand was changed with the left one: %v", right)
		}
		if !slices.Equal(b.Keys, keepKeys) || !slices.Equal(ids, keepIDs) {
			t.Fatalf("%v, %v were changed to %v, %v", keepKeys, keepIDs, b.Keys, ids)
		}
	}
}

// TestSameAgain checks that a call returns the same each time.
func TestSameAgain(t *testing.T) {
	r := source()
	for _, b := range drawBoards(r, 60) {
		ids, vs := drawIDs(r, b, 5), drawChord(r, b, 3)
		left, right, e := board.Hands(b, ids)
		chord, f := board.Chord(b, vs)
		for range 5 {
			expectHands(t, b, ids, left, right, e)
			expectChord(t, b, vs, chord, f)
		}
	}
}

// TestWaysFeatures checks that the package is built with the features that the section 'Ways' lists.
func TestWaysFeatures(t *testing.T) {
	missing := map[string]bool{"closure": true, "map": true, "label": true}
	for name, f := range functions(t) {
		ast.Inspect(f, func(n ast.Node) bool {
			switch x := n.(type) {
			case *ast.AssignStmt:
				if name == "first" && callsItself(x) {
					delete(missing, "closure")
				}
			case *ast.MapType:
				if key, ok := x.Key.(*ast.Ident); ok && name == "withNumbers" && key.Name == "int" {
					delete(missing, "map")
				}
			case *ast.BranchStmt:
				if name == "divide" && x.Tok == token.CONTINUE && x.Label != nil {
					delete(missing, "label")
				}
			}
			return true
		})
	}
	for name := range missing {
		t.Errorf("%s is not used", name)
	}
}

// callsItself reports whether a closure is assigned to a name that it calls.
func callsItself(x *ast.AssignStmt) bool {
	name, ok := x.Lhs[0].(*ast.Ident)
	if !ok {
		return false
	}
	found := false
	closure, ok := x.Rhs[0].(*ast.FuncLit)
	if !ok {
		return false
	}
	ast.Inspect(closure, func(n ast.Node) bool {
		if call, ok := n.(*ast.CallExpr); ok {
			if f, ok := call.Fun.(*ast.Ident); ok && f.Name == name.Name {
				found = true
			}
		}
		return true
	})
	return found
}

// functions returns the functions of the package, without its tests, by their names.
func functions(t *testing.T) map[string]*ast.FuncDecl {
	entries, err := os.ReadDir(".")
	if err != nil {
		t.Fatal(err)
	}
	found := map[string]*ast.FuncDecl{}
	for _, entry := range entries {
		if name := entry.Name(); !strings.HasSuffix(name, ".go") || strings.HasSuffix(name, "_test.go") {
			continue
		}
		file, err := parser.ParseFile(token.NewFileSet(), entry.Name(), nil, 0)
		if err != nil {
			t.Fatal(err)
		}
		for _, d := range file.Decls {
			if f, ok := d.(*ast.FuncDecl); ok {
				found[f.Name.Name] = f
			}
		}
	}
	return found
}
