package tree_test

import (
	"fmt"
	"math"
	"reflect"
	"slices"
	"testing"

	"padlock/api"
	"padlock/tree"
)

// both: that a and b are the same, or that they aren't, whichever is named first, and each with itself.
func both[T any](t *testing.T, what string, same func(a, b T) bool, a, b T, want bool) {
	t.Helper()
	if same(a, b) != want || same(b, a) != want {
		t.Errorf("%s: not %v: %+v; %+v", what, want, a, b)
	}
	if !same(a, a) || !same(b, b) {
		t.Errorf("%s: one isn't the same as itself: %+v; %+v", what, a, b)
	}
}

// eachPart: that a value is another one as soon as any of its parts is made another one, unless it tells a place.
func eachPart[T any](t *testing.T, same func(a, b T) bool, made T) {
	t.Helper()
	other := copyOf(made)
	for _, p := range partsOf(&other) {
		for _, c := range changes {
			back := keep(p.value)
			if c.do(p.value) {
				both(t, fmt.Sprintf("%T%s, %s", made, p.path, c.name), same, made, other, p.place)
			}
			back()
		}
	}
	both(t, "unchanged", same, made, other, true)
}

// in: whether two are the same, asked of the statements, rights or the like that have them.
func in[T, U any](same func(a, b U) bool, put func(x T) U) func(a, b T) bool {
	return func(a, b T) bool { return same(put(a), put(b)) }
}

func stmtOfPlace(p api.Place) api.Stmt { return api.Stmt{Op: api.Set, Place: p} }
func stmtOfRight(r api.Right) api.Stmt { return api.Stmt{Op: api.Let, Name: "x", Right: r} }

// P4.2: each thing that expressions, statements and programs have counts, at the top and deep within, but places.
func TestEachPart(t *testing.T) {
	eachPart(t, tree.SameExpr, full[api.Expr](3))
	eachPart(t, tree.Exprs, full[[]api.Expr](3))
	eachPart(t, tree.SameStmt, full[api.Stmt](2))
	eachPart(t, tree.Stmts, full[[]api.Stmt](2))
	eachPart(t, tree.Same, full[api.Program](2))
}

// P4.2: so it is deep within, in each row and each part that another one stands in.
func TestEachPartWithin(t *testing.T) {
	e, s := full[api.Expr](2), full[api.Stmt](1)
	eachPart(t, tree.SameExpr, api.Expr{Op: api.Neg, Kids: []api.Expr{{Op: api.Binary, Kids: []api.Expr{one, e}}}})
	for _, around := range []api.Stmt{
		{Op: api.Print, E: e},
		{Op: api.Call, Args: []api.Expr{one, e, {}}},
		{Op: api.Set, Place: api.Place{Op: api.Elem, Index: e}},
		{Op: api.Let, Right: api.Right{Op: api.NewInts, E: e}},
		{Op: api.Let, Right: api.Right{Op: api.Load, Place: api.Place{Op: api.Elem, Index: e}}},
		{Op: api.Atomic, Body: []api.Stmt{{Op: api.Break}, s}},
		{Op: api.If, Else: []api.Stmt{s, {Op: api.Break}}},
		{Op: api.If, Body: []api.Stmt{{Op: api.Loop, Body: []api.Stmt{{Op: api.If, Else: []api.Stmt{s}}}}}},
	} {
		eachPart(t, tree.SameStmt, around)
		eachPart(t, tree.Same, api.Program{Funs: []api.Fun{{Name: "f"}, {Name: "g", Body: oneOf(around)}}})
		eachPart(t, tree.Same, api.Program{Threads: []api.Thread{{}, {Body: oneOf(around)}}})
	}
}

// P4.1: what a kind hasn't counts, too, whatever the kind is.
func TestEachPartOfAllKinds(t *testing.T) {
	e, p, r, s := full[api.Expr](1), full[api.Place](1), full[api.Right](1), full[api.Stmt](1)
	for _, k := range kinds {
		e.Op, p.Op, r.Op, s.Op = k, k, k, k
		eachPart(t, tree.SameExpr, e)
		eachPart(t, in(tree.SameStmt, stmtOfPlace), p)
		eachPart(t, in(tree.SameStmt, stmtOfRight), r)
		eachPart(t, tree.SameStmt, s)
	}
}

// allPairs: that each of a row is the same as itself alone, in whatever it stands.
func allPairs[T any](t *testing.T, same func(a, b T) bool, list []T) {
	t.Helper()
	for i, a := range list {
		for k, b := range list {
			both(t, fmt.Sprintf("%T %d, %d", a, i, k), same, copyOf(a), copyOf(b), i == k)
		}
	}
}

func oneOf[T any](x T) []T { return []T{x} }

var (
	one  = api.Expr{Op: api.Lit, N: 1}
	two  = api.Expr{Op: api.Lit, N: 2}
	varX = api.Expr{Op: api.Var, Name: "x"}
)

// exprKinds: expressions of each kind, with all that it has, once one way and once another.
func exprKinds() []api.Expr {
	out := []api.Expr{one, two, varX, {Op: api.Var, Name: "y"}, {Op: api.Lit, N: math.MaxInt64}}
	for _, n := range []uint64{0, 1, 1 << 63, 0x7ff8000000000000, 0x7ff8000000000001, math.MaxUint64} {
		out = append(out, api.Expr{Op: api.LitReal, N: n}, api.Expr{Op: api.Input, N: n})
	}
	for _, ty := range []api.Type{{Kind: api.Ints}, {Kind: api.Ref, Rec: "R"}, {Kind: api.Ref, Rec: "S"}} {
		out = append(out, api.Expr{Op: api.Nobody, Type: ty})
	}
	for _, op := range []int{api.Neg, api.ToReal, api.Trunc} {
		out = append(out, api.Expr{Op: op, Kids: oneOf(one)}, api.Expr{Op: op, Kids: oneOf(varX)})
	}
	for bin := range 9 {
		out = append(out, api.Expr{Op: api.Binary, Bin: bin, Kids: []api.Expr{one, varX}}, api.Expr{Op: api.Binary, Bin: bin, Kids: []api.Expr{varX, one}})
	}
	// 1 - (2 - x) and (1 - 2) - x.
	out = append(out,
		api.Expr{Op: api.Binary, Bin: 1, Kids: []api.Expr{one, {Op: api.Binary, Bin: 1, Kids: []api.Expr{two, varX}}}},
		api.Expr{Op: api.Binary, Bin: 1, Kids: []api.Expr{{Op: api.Binary, Bin: 1, Kids: []api.Expr{one, two}}, varX}})
	for _, op := range []int{0, -1, 10, math.MaxInt, math.MinInt} {
		out = append(out, api.Expr{Op: op}, api.Expr{Op: op, Kids: oneOf(one)})
	}
	return out
}

func placeKinds() []api.Place {
	out := []api.Place{{Op: api.Global, Base: "g"}, {Op: api.Global, Base: "h"}, {Op: api.Field, Base: "g", Field: "a"}, {Op: api.Field, Base: "g", Field: "b"}, {Op: api.Field, Base: "h", Field: "a"}, {Op: api.Field, Base: "a", Field: "g"}, {Op: 0, Base: "g"}, {Op: 4, Base: "g"}, {Op: -1}}
	for _, e := range exprKinds() {
		out = append(out, api.Place{Op: api.Elem, Base: "g", Index: e}, api.Place{Op: api.Elem, Base: "h", Index: e})
	}
	return out
}

func rightKinds() []api.Right {
	out := []api.Right{{Op: api.New, Name: "x"}, {Op: api.New, Name: "y"}, {Op: api.Size, Name: "x"}, {Op: api.Size, Name: "y"}, {Op: 0, Name: "x"}, {Op: 6, Name: "x"}, {Op: -1, E: one}}
	for _, e := range exprKinds() {
		out = append(out, api.Right{Op: api.Calc, E: e}, api.Right{Op: api.NewInts, E: e})
	}
	for _, p := range placeKinds() {
		out = append(out, api.Right{Op: api.Load, Place: p})
	}
	return out
}

func stmtKinds() []api.Stmt {
	print1, print2 := api.Stmt{Op: api.Print, E: one}, api.Stmt{Op: api.Print, E: two}
	out := []api.Stmt{
		print1, print2, {Op: api.Print, E: varX},
		{Op: api.If, E: one}, {Op: api.If, E: varX}, {Op: api.If, E: one, Body: oneOf(print1)}, {Op: api.If, E: one, Else: oneOf(print1)}, {Op: api.If, E: one, Body: oneOf(print1), Else: oneOf(print2)}, {Op: api.If, E: one, Body: oneOf(print2), Else: oneOf(print1)}, {Op: api.If, E: one, Body: []api.Stmt{print1, print2}}, {Op: api.If, E: one, Else: []api.Stmt{print1, print2}},
		{Op: api.Loop}, {Op: api.Loop, N: 3}, {Op: api.Loop, N: 3, Name: "out"}, {Op: api.Loop, N: 3, Name: "in"}, {Op: api.Loop, N: 4, Name: "out"}, {Op: api.Loop, N: 3, Body: oneOf(print1)}, {Op: api.Loop, N: 3, Name: "out", Body: oneOf(print1)}, {Op: api.Loop, N: 3, Name: "out", Body: oneOf(print2)},
		{Op: api.Break}, {Op: api.Break, Name: "out"}, {Op: api.Break, Name: "in"}, {Op: api.Continue}, {Op: api.Continue, Name: "out"}, {Op: api.Continue, Name: "in"},
		{Op: api.Atomic}, {Op: api.Atomic, Body: oneOf(print1)}, {Op: api.Atomic, Body: []api.Stmt{print1, print2}}, {Op: api.Atomic, Body: []api.Stmt{print2, print1}}, {Op: api.Atomic, Body: oneOf(api.Stmt{Op: api.Atomic, Body: oneOf(print1)})},
		{Op: api.Call, Name: "f"}, {Op: api.Call, Name: "g"}, {Op: api.Call, Name: "f", Args: oneOf(one)}, {Op: api.Call, Name: "f", Args: []api.Expr{one, two}}, {Op: api.Call, Name: "f", Args: []api.Expr{two, one}}, {Op: api.Call, Name: "f", Args: []api.Expr{one, two, one}}, {Op: api.Call, Name: "g", Args: []api.Expr{one, two}},
		{}, {Op: -1}, {Op: 12}, {Op: 12, Name: "f"}, {Op: 12, Body: oneOf(print1)}, {Op: 12, Else: oneOf(print1)}, {Op: math.MaxInt}, {Op: math.MinInt},
	}
	for _, op := range []int{api.Let, api.VarStmt, api.Assign} {
		for _, r := range []api.Right{{Op: api.Calc, E: one}, {Op: api.Calc, E: varX}, {Op: api.Load, Place: api.Place{Op: api.Global, Base: "g"}}, {Op: api.New, Name: "R"}, {Op: api.NewInts, E: one}, {Op: api.Size, Name: "R"}} {
			out = append(out, api.Stmt{Op: op, Name: "x", Right: r}, api.Stmt{Op: op, Name: "y", Right: r})
		}
	}
	for _, p := range []api.Place{{Op: api.Global, Base: "g"}, {Op: api.Field, Base: "g", Field: "a"}, {Op: api.Elem, Base: "g", Index: one}, {Op: api.Elem, Base: "g", Index: varX}} {
		out = append(out, api.Stmt{Op: api.Set, Place: p, E: one}, api.Stmt{Op: api.Set, Place: p, E: varX})
	}
	return out
}

// P4.1: each kind with all that it has, and kinds that there aren't, each held against all others.
func TestKinds(t *testing.T) {
	allPairs(t, tree.SameExpr, exprKinds())
	allPairs(t, in(tree.Exprs, func(e api.Expr) []api.Expr { return []api.Expr{one, e} }), exprKinds())
	allPairs(t, in(tree.SameStmt, stmtOfPlace), placeKinds())
	allPairs(t, in(tree.SameStmt, stmtOfRight), rightKinds())
	allPairs(t, tree.SameStmt, stmtKinds())
	allPairs(t, tree.Stmts, rowsOf(stmtKinds()))
	for _, around := range []func(s api.Stmt) api.Stmt{
		func(s api.Stmt) api.Stmt { return api.Stmt{Op: api.Atomic, Body: []api.Stmt{s, s}} },
		func(s api.Stmt) api.Stmt { return api.Stmt{Op: api.If, Else: []api.Stmt{{Op: api.Break}, s}} },
	} {
		allPairs(t, in(tree.SameStmt, around), stmtKinds())
		allPairs(t, in(tree.Same, func(s api.Stmt) api.Program { return api.Program{Funs: oneOf(api.Fun{Body: oneOf(around(s))})} }), stmtKinds())
		allPairs(t, in(tree.Same, func(s api.Stmt) api.Program { return api.Program{Threads: oneOf(api.Thread{Body: oneOf(around(s))})} }), stmtKinds())
	}
}

func rowsOf[T any](list []T) [][]T {
	var out [][]T
	for _, x := range list {
		out = append(out, oneOf(x))
	}
	return out
}

// beginnings: a row's beginnings, from none of it to all.
func beginnings[T any](list []T) [][]T {
	var out [][]T
	for size := range len(list) + 1 {
		out = append(out, list[:size])
	}
	return out
}

// noneIsNone: that nil, empty, and empty with room are one row.
func noneIsNone[T any](t *testing.T, same func(a, b []T) bool, some []T) {
	t.Helper()
	nones := [][]T{nil, {}, some[:0], make([]T, 0, 9)}
	for i, a := range nones {
		for k, b := range nones {
			both(t, fmt.Sprintf("none of %T %d, %d", a, i, k), same, a, b, true)
		}
		both(t, fmt.Sprintf("none of %T %d, and some", a, i), same, a, some, false)
	}
}

// P4.1: rows of none, of unlike lengths, and such as are the beginning of another one; in all that has rows.
func TestRows(t *testing.T) {
	exprs, stmts := exprKinds()[:5], stmtKinds()[:6]
	allPairs(t, tree.Exprs, beginnings(exprs))
	allPairs(t, tree.Stmts, beginnings(stmts))
	noneIsNone(t, tree.Exprs, exprs)
	noneIsNone(t, tree.Stmts, stmts)
	both(t, "one thrice", tree.Exprs, []api.Expr{one, one}, []api.Expr{one, one, one}, false)
	both(t, "zeros", tree.Exprs, []api.Expr{{}}, []api.Expr{{}, {}}, false)
	both(t, "zeros", tree.Stmts, []api.Stmt{{}}, []api.Stmt{{}, {}}, false)

	kids := in(tree.SameExpr, func(l []api.Expr) api.Expr { return api.Expr{Op: api.Binary, Kids: l} })
	allPairs(t, kids, beginnings(exprs))
	noneIsNone(t, kids, exprs)
	args := in(tree.SameStmt, func(l []api.Expr) api.Stmt { return api.Stmt{Op: api.Call, Name: "f", Args: l} })
	allPairs(t, args, beginnings(exprs))
	noneIsNone(t, args, exprs)
	for _, put := range []func(l []api.Stmt) api.Stmt{
		func(l []api.Stmt) api.Stmt { return api.Stmt{Op: api.If, Body: l} },
		func(l []api.Stmt) api.Stmt { return api.Stmt{Op: api.If, Else: l} },
		func(l []api.Stmt) api.Stmt { return api.Stmt{Op: api.If, Body: l, Else: stmts} },
	} {
		allPairs(t, in(tree.SameStmt, put), beginnings(stmts))
		noneIsNone(t, in(tree.SameStmt, put), stmts)
	}
}

// P4.1, P4.2: a program's rows, one more or less, in another order, and what stands in them; nothing of a program is found in another row of it.
func TestPrograms(t *testing.T) {
	a, b, real := api.Named{Name: "a", Type: api.Type{Kind: api.Int}}, api.Named{Name: "b", Type: api.Type{Kind: api.Int}}, api.Named{Name: "a", Type: api.Type{Kind: api.Real}}
	refR, refS := api.Named{Name: "a", Type: api.Type{Kind: api.Ref, Rec: "R"}}, api.Named{Name: "a", Type: api.Type{Kind: api.Ref, Rec: "S"}}
	rows := [][]api.Named{nil, {a}, {b}, {real}, {refR}, {refS}, {a, b}, {b, a}, {a, a}, {a, b, real}}
	print1, print2 := api.Stmt{Op: api.Print, E: one}, api.Stmt{Op: api.Print, E: two}
	bodies := [][]api.Stmt{nil, {print1}, {print2}, {print1, print2}, {print2, print1}, {{Op: api.Atomic, Body: oneOf(print1)}}}
	list := []api.Program{{}}
	for i, r := range rows {
		list = append(list, api.Program{Records: []api.Record{{Name: "R", Fields: r}}}, api.Program{Records: []api.Record{{Name: "S", Fields: r}}},
			api.Program{Funs: []api.Fun{{Name: "f", Params: r}}}, api.Program{Funs: []api.Fun{{Name: "g", Params: r}}})
		if i > 0 {
			list = append(list, api.Program{Globals: r}, api.Program{Records: []api.Record{{Name: "R", Fields: r}, {Name: "R", Fields: r}}}, api.Program{Globals: r, Threads: []api.Thread{{}}})
		}
	}
	for i, body := range bodies {
		list = append(list, api.Program{Threads: []api.Thread{{Body: body}, {Body: body}, {Body: body}}})
		if i > 0 {
			list = append(list, api.Program{Threads: []api.Thread{{Body: body}}}, api.Program{Threads: []api.Thread{{Body: body}, {}}}, api.Program{Threads: []api.Thread{{}, {Body: body}}},
				api.Program{Funs: []api.Fun{{Name: "f", Body: body}}}, api.Program{Funs: []api.Fun{{Name: "f", Body: body}, {Name: "f"}}}, api.Program{Funs: []api.Fun{{Name: "f"}, {Name: "f", Body: body}}})
		}
	}
	list = append(list,
		api.Program{Threads: []api.Thread{{}}}, api.Program{Threads: []api.Thread{{}, {}}},
		api.Program{Records: []api.Record{{Name: "R"}, {Name: "S"}}}, api.Program{Records: []api.Record{{Name: "S"}, {Name: "R"}}}, api.Program{Records: []api.Record{{Name: "R"}, {Name: "S"}, {Name: "T"}}},
		api.Program{Funs: []api.Fun{{Name: "f"}, {Name: "g"}}}, api.Program{Funs: []api.Fun{{Name: "g"}, {Name: "f"}}})
	allPairs(t, tree.Same, list)
	both(t, "nothing", tree.Same, api.Program{}, api.Program{Records: []api.Record{}, Globals: []api.Named{}, Funs: []api.Fun{}, Threads: []api.Thread{}}, true)
	both(t, "nothing within", tree.Same, api.Program{Records: []api.Record{{}}, Funs: []api.Fun{{}}, Threads: []api.Thread{{}}}, api.Program{Records: []api.Record{{Fields: []api.Named{}}}, Funs: []api.Fun{{Params: []api.Named{}, Body: []api.Stmt{}}}, Threads: []api.Thread{{Body: []api.Stmt{}}}}, true)
}

// otherPlaces: the same, with every place another one.
func otherPlaces[T any](v T) T {
	out := copyOf(v)
	for i, p := range partsOf(&out) {
		if p.place {
			p.value.SetInt(int64(1000 - 7*i))
		}
	}
	return out
}

// P4.2: where nothing but places differs, all are the same.
func TestPlacesAlone(t *testing.T) {
	e, s, p := full[[]api.Expr](3), full[[]api.Stmt](2), full[api.Program](3)
	both(t, "expression", tree.SameExpr, e[1], otherPlaces(e[1]), true)
	both(t, "expressions", tree.Exprs, e, otherPlaces(e), true)
	both(t, "statement", tree.SameStmt, s[1], otherPlaces(s[1]), true)
	both(t, "statements", tree.Stmts, s, otherPlaces(s), true)
	both(t, "program", tree.Same, p, otherPlaces(p), true)
	if reflect.DeepEqual(p, otherPlaces(p)) {
		t.Error("the places are the same")
	}
}

// P4.1, P4.2: of many values made by chance, those are the same that are so by their form.
func TestManyPairs(t *testing.T) {
	m := newMaker(4)
	times := map[bool]int{}
	for range 20000 {
		a, b := m.exprs(0), m.exprs(0)
		both(t, "expressions", tree.Exprs, a, b, alike(a, b))
		times[alike(a, b)]++
	}
	for range 300 {
		p := m.program(2)
		near := otherPlaces(p)
		all := partsOf(&near)
		if len(all) > 0 && m.Intn(4) > 0 {
			changes[m.Intn(len(changes))].do(all[m.Intn(len(all))].value)
		}
		both(t, "programs", tree.Same, p, near, alike(p, near))
		times[alike(p, near)]++
	}
	if times[true] < 500 || times[false] < 500 {
		t.Error(times)
	}
}

// Rule 3: nothing that is handed in is changed, spare room included.
func TestArgumentsStay(t *testing.T) {
	a, b := full[api.Program](2), full[api.Program](2)
	room := slices.Grow(a.Threads[0].Body, 3)
	spare := room[:cap(room)]
	for i := len(room); i < len(spare); i++ {
		spare[i] = api.Stmt{Op: api.Call, Name: "spare"}
	}
	a.Threads[0].Body = room
	wasA, wasB, wasSpare := copyOf(a), copyOf(b), copyOf(spare)
	tree.Same(a, b)
	tree.Stmts(room, b.Threads[0].Body)
	tree.SameStmt(room[0], b.Threads[0].Body[0])
	tree.Exprs(room[0].Args, b.Threads[0].Body[0].Args)
	tree.SameExpr(room[0].E, b.Threads[0].Body[0].E)
	tree.Count(a)
	tree.Calls(room)
	for range tree.All(room) {
	}
	if !reflect.DeepEqual(a, wasA) || !reflect.DeepEqual(b, wasB) || !reflect.DeepEqual(spare, wasSpare) {
		t.Error("an argument was changed")
	}
}
