package show_test

import (
	"math"
	"strings"
	"testing"

	"padlock/api"
	"padlock/num"
	"padlock/show"
)

// inThread: a thread's text, with a tab ahead of each line of its block.
func inThread(lines ...string) string {
	var out strings.Builder
	out.WriteString("thread {\n")
	for _, l := range lines {
		out.WriteString("\t" + l + "\n")
	}
	return out.String() + "}\n"
}

// places: each kind of place, and its text.
var places = []struct {
	place api.Place
	want  string
}{
	{api.Place{Op: api.Global, Base: "g"}, "g"},
	{api.Place{Op: api.Field, Base: "x", Field: "f"}, "x.f"},
	{api.Place{Op: api.Elem, Base: "x", Index: lit(0)}, "x[0]"},
	{api.Place{Op: api.Elem, Base: "x", Index: bin(num.Lt, name("i"), bin(num.Add, lit(1), of(api.Neg, lit(2))))}, "x[i < 1 + -2]"},
	{api.Place{Op: api.Elem, Base: "x", Index: bin(num.Sub, lit(1), bin(num.Sub, lit(2), lit(3)))}, "x[1 - (2 - 3)]"},
}

// rights: each kind of right side but Load, and its text.
var rights = []struct {
	right api.Right
	want  string
}{
	{calc(lit(0)), "0"},
	{calc(bin(num.Eq, name("a"), bin(num.Eq, name("b"), name("c")))), "a == (b == c)"},
	{calc(of(api.Neg, bits(1))), "-#0000000000000001"},
	{calc(nobody(ref("R"))), "nil R"},
	{api.Right{Op: api.New, Name: "R"}, "new R"},
	{api.Right{Op: api.NewInts, E: lit(5)}, "new ints 5"},
	{api.Right{Op: api.NewInts, E: bin(num.Add, lit(5), name("n"))}, "new ints 5 + n"},
	{api.Right{Op: api.NewInts, E: of(api.Trunc, bin(num.Div, name("n"), bits(0)))}, "new ints trunc (n / #0000000000000000)"},
	{api.Right{Op: api.Size, Name: "x"}, "size x"},
}

// P6.1, P6.2: each kind of right side, and of place, in each statement that has one.
func TestRightsAndPlaces(t *testing.T) {
	all := rights
	for _, p := range places {
		again(t, thread(api.Stmt{Op: api.Set, Place: p.place, E: lit(7)}), inThread("set "+p.want+" = 7;"))
		all = append(all, struct {
			right api.Right
			want  string
		}{api.Right{Op: api.Load, Place: p.place}, "load " + p.want})
	}
	for _, r := range all {
		again(t, thread(api.Stmt{Op: api.Let, Name: "y", Right: r.right}), inThread("let y = "+r.want+";"))
		again(t, thread(api.Stmt{Op: api.VarStmt, Name: "y", Right: r.right}), inThread("var y = "+r.want+";"))
		again(t, thread(api.Stmt{Op: api.Assign, Name: "y", Right: r.right}), inThread("y = "+r.want+";"))
	}
}

// statements: each kind of statement, with its lines.
var statements = []struct {
	stmt api.Stmt
	want []string
}{
	{api.Stmt{Op: api.Let, Name: "x", Right: calc(lit(1))}, []string{"let x = 1;"}},
	{api.Stmt{Op: api.VarStmt, Name: "x", Right: calc(lit(1))}, []string{"var x = 1;"}},
	{api.Stmt{Op: api.Assign, Name: "x", Right: calc(lit(1))}, []string{"x = 1;"}},
	{api.Stmt{Op: api.Set, Place: api.Place{Op: api.Global, Base: "g"}, E: bin(num.Add, name("x"), lit(1))}, []string{"set g = x + 1;"}},
	{api.Stmt{Op: api.Print, E: of(api.Neg, name("x"))}, []string{"print -x;"}},
	{api.Stmt{Op: api.If, E: bin(num.Le, name("x"), lit(1))}, []string{"if x <= 1 {", "}"}},
	{api.Stmt{Op: api.If, E: lit(1), Else: []api.Stmt{}}, []string{"if 1 {", "}"}},
	{api.Stmt{Op: api.If, E: lit(1), Body: []api.Stmt{show1(lit(2))}}, []string{"if 1 {", "\tprint 2;", "}"}},
	{api.Stmt{Op: api.If, E: lit(1), Body: []api.Stmt{show1(lit(2))}, Else: []api.Stmt{}}, []string{"if 1 {", "\tprint 2;", "}"}},
	{api.Stmt{Op: api.If, E: lit(1), Else: []api.Stmt{show1(lit(3))}}, []string{"if 1 {", "} else {", "\tprint 3;", "}"}},
	{api.Stmt{Op: api.If, E: lit(1), Body: []api.Stmt{show1(lit(2)), show1(lit(3))}, Else: []api.Stmt{show1(lit(4)), show1(lit(5))}},
		[]string{"if 1 {", "\tprint 2;", "\tprint 3;", "} else {", "\tprint 4;", "\tprint 5;", "}"}},
	{api.Stmt{Op: api.If, E: lit(1), Else: []api.Stmt{{Op: api.If, E: lit(2), Else: []api.Stmt{{Op: api.Break}}}}},
		[]string{"if 1 {", "} else {", "\tif 2 {", "\t} else {", "\t\tbreak;", "\t}", "}"}},
	{api.Stmt{Op: api.Loop}, []string{"loop 0 {", "}"}},
	{api.Stmt{Op: api.Loop, N: 3, Body: []api.Stmt{{Op: api.Continue}}}, []string{"loop 3 {", "\tcontinue;", "}"}},
	{api.Stmt{Op: api.Loop, Name: "out", N: 3, Body: []api.Stmt{{Op: api.Break, Name: "out"}}}, []string{"out: loop 3 {", "\tbreak out;", "}"}},
	{api.Stmt{Op: api.Loop, Name: "out", N: math.MaxInt}, []string{"out: loop 9223372036854775807 {", "}"}},
	{api.Stmt{Op: api.Break}, []string{"break;"}},
	{api.Stmt{Op: api.Break, Name: "out"}, []string{"break out;"}},
	{api.Stmt{Op: api.Continue}, []string{"continue;"}},
	{api.Stmt{Op: api.Continue, Name: "out"}, []string{"continue out;"}},
	{api.Stmt{Op: api.Atomic}, []string{"atomic {", "}"}},
	{api.Stmt{Op: api.Atomic, Body: []api.Stmt{show1(lit(1)), {Op: api.Atomic}, show1(lit(2))}}, []string{"atomic {", "\tprint 1;", "\tatomic {", "\t}", "\tprint 2;", "}"}},
	{api.Stmt{Op: api.Call, Name: "f"}, []string{"call f();"}},
	{api.Stmt{Op: api.Call, Name: "f", Args: []api.Expr{lit(1)}}, []string{"call f(1);"}},
	{api.Stmt{Op: api.Call, Name: "f", Args: []api.Expr{bin(num.Eq, lit(1), lit(2)), nobody(ofKind(api.Ints)), of(api.Neg, bin(num.Sub, lit(3), lit(4)))}},
		[]string{"call f(1 == 2, nil ints, -(3 - 4));"}},
}

// P6.1, P6.2: each kind of statement, alone, one behind another, and within each block.
func TestStatements(t *testing.T) {
	var all []api.Stmt
	var lines, deeper []string
	for _, s := range statements {
		again(t, thread(s.stmt), inThread(s.want...))
		all = append(all, s.stmt)
		for _, l := range s.want {
			lines = append(lines, l)
			deeper = append(deeper, "\t"+l)
		}
	}
	again(t, thread(all...), inThread(lines...))
	around := func(first, last string) string {
		return inThread(append(append([]string{first}, deeper...), last)...)
	}
	again(t, thread(api.Stmt{Op: api.Atomic, Body: all}), around("atomic {", "}"))
	again(t, thread(api.Stmt{Op: api.Loop, N: 100, Body: all}), around("loop 100 {", "}"))
	again(t, thread(api.Stmt{Op: api.Loop, Name: "l", N: 1, Body: all}), around("l: loop 1 {", "}"))
	again(t, thread(api.Stmt{Op: api.If, E: name("c"), Body: all}), around("if c {", "}"))
	again(t, thread(api.Stmt{Op: api.If, E: name("c"), Else: all}), strings.Replace(around("if c {", "}"), "if c {", "if c {\n\t} else {", 1))
	again(t, api.Program{Funs: []api.Fun{{Name: "f", Body: all}}}, strings.Replace(inThread(lines...), "thread", "fun f()", 1))
}

// P6.1, P6.2: the program of nothing, and each kind of item, with none and with some within it.
func TestItems(t *testing.T) {
	for _, c := range []struct {
		p    api.Program
		want string
	}{
		{api.Program{}, ""},
		{api.Program{Records: []api.Record{}, Globals: []api.Named{}, Funs: []api.Fun{}, Threads: []api.Thread{}}, ""},
		{api.Program{Records: []api.Record{{Name: "R"}}}, "record R {\n}\n"},
		{api.Program{Records: []api.Record{{Name: "R", Fields: []api.Named{named("a", ofKind(api.Int))}}}}, "record R {\n\ta: int;\n}\n"},
		{api.Program{Records: []api.Record{{Name: "R", Fields: []api.Named{named("d", ofKind(api.Int)), named("c", ofKind(api.Real)), named("b", ofKind(api.Ints)), named("a", ref("R"))}}}},
			"record R {\n\td: int;\n\tc: real;\n\tb: ints;\n\ta: R;\n}\n"},
		{api.Program{Globals: []api.Named{named("g", ofKind(api.Int))}}, "global g: int;\n"},
		{api.Program{Globals: []api.Named{named("g", ofKind(api.Real)), named("f", ofKind(api.Ints)), named("h", ref("R")), named("g", ref("S"))}},
			"global g: real;\nglobal f: ints;\nglobal h: R;\nglobal g: S;\n"},
		{api.Program{Funs: []api.Fun{{Name: "f"}}}, "fun f() {\n}\n"},
		{api.Program{Funs: []api.Fun{{Name: "f", Params: []api.Named{named("a", ofKind(api.Int))}}}}, "fun f(a: int) {\n}\n"},
		{api.Program{Funs: []api.Fun{{Name: "f", Params: []api.Named{named("a", ofKind(api.Int)), named("b", ofKind(api.Ints)), named("c", ref("R")), named("a", ofKind(api.Real))}, Body: []api.Stmt{show1(name("a"))}}}},
			"fun f(a: int, b: ints, c: R, a: real) {\n\tprint a;\n}\n"},
		{api.Program{Threads: []api.Thread{{}}}, "thread {\n}\n"},
		{api.Program{Threads: []api.Thread{{Body: []api.Stmt{show1(lit(1))}}, {}, {Body: []api.Stmt{show1(lit(3))}}}}, "thread {\n\tprint 1;\n}\nthread {\n}\nthread {\n\tprint 3;\n}\n"},
	} {
		again(t, c.p, c.want)
	}
}

// P6.1, P6.2: records, globals, functions and threads, in the order of kinds, each in the program's.
func TestOrder(t *testing.T) {
	text := "thread { print 1; } fun b() { } global z: int; record S { } fun a() { } thread { print 0; } record R { } global y: real; fun c() { } record T { } global x: R;"
	again(t, parsed(t, text), "record S {\n}\nrecord R {\n}\nrecord T {\n}\nglobal z: int;\nglobal y: real;\nglobal x: R;\n"+
		"fun b() {\n}\nfun a() {\n}\nfun c() {\n}\nthread {\n\tprint 1;\n}\nthread {\n\tprint 0;\n}\n")
}

// P6.1: names and numbers of any kind stand as they are, wherever they do.
func TestAnyNames(t *testing.T) {
	for _, n := range []string{"", " ", "a b", "let", "}\n", "\t", "(é\xff\x00)", "// x", "1", "-1", "#", strings.Repeat("n", 10000)} {
		p := api.Program{
			Records: []api.Record{{Name: n, Fields: []api.Named{named(n, ref(n))}}},
			Globals: []api.Named{named(n, ref(n))},
			Funs:    []api.Fun{{Name: n, Params: []api.Named{named(n, ref(n)), named(n, ref(n))}}},
			Threads: []api.Thread{{Body: []api.Stmt{
				{Op: api.Let, Name: n, Right: api.Right{Op: api.New, Name: n}},
				{Op: api.VarStmt, Name: n, Right: api.Right{Op: api.Size, Name: n}},
				{Op: api.Assign, Name: n, Right: api.Right{Op: api.Load, Place: api.Place{Op: api.Global, Base: n}}},
				{Op: api.Set, Place: api.Place{Op: api.Field, Base: n, Field: n}, E: name(n)},
				{Op: api.Set, Place: api.Place{Op: api.Elem, Base: n, Index: name(n)}, E: nobody(ref(n))},
				{Op: api.Call, Name: n, Args: []api.Expr{name(n), name(n)}},
			}}},
		}
		want(t, show.Program(p), strings.ReplaceAll("record N {\n\tN: N;\n}\nglobal N: N;\nfun N(N: N, N: N) {\n}\nthread {\n\tlet N = new N;\n\tvar N = size N;\n\tN = load N;\n\tset N.N = N;\n\tset N[N] = nil N;\n\tcall N(N, N);\n}\n", "N", n))
		label, ahead := n, " "
		if n == "" {
			ahead = ""
		} else {
			label += ": "
		}
		loop := thread(api.Stmt{Op: api.Loop, Name: n, Body: []api.Stmt{{Op: api.Break, Name: n}, {Op: api.Continue, Name: n}}})
		want(t, show.Program(loop), inThread(label+"loop 0 {", "\tbreak"+ahead+n+";", "\tcontinue"+ahead+n+";", "}"))
	}
	for n, text := range map[int]string{-1: "-1", math.MinInt: "-9223372036854775808", math.MaxInt: "9223372036854775807", 101: "101"} {
		want(t, show.Program(thread(api.Stmt{Op: api.Loop, N: n})), inThread("loop "+text+" {", "}"))
	}
}

// P6.1: the chapter's lines, all of them, in one program.
func TestLinesOfTheChapter(t *testing.T) {
	text := "record R {\n\tf: int;\n}\nglobal g: R;\nfun f(a: int, b: ints) {\n}\n" + inThread(
		"let x = size b;", "var x = new R;", "x = load g;", "set x.f = 1;", "print x;", "call f(1, x);",
		"if x {", "\tprint 1;", "} else {", "\tatomic {", "\t\tset g = x;", "\t}", "}",
		"loop 3 {", "\tbreak;", "\tcontinue;", "}", "out: loop 3 {", "\tbreak out;", "\tcontinue out;", "}")
	again(t, parsed(t, text), text)
}
