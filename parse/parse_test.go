package parse_test

import (
	"reflect"
	"slices"
	"strings"
	"testing"

	"padlock/api"
	"padlock/lex"
	"padlock/num"
	"padlock/parse"
)

// parsed: the program of a text that has one.
func parsed(t *testing.T, text string) api.Program {
	t.Helper()
	p, fault := parse.Parse(text)
	if fault != (api.Fault{}) {
		t.Fatalf("%q: %v", text, fault)
	}
	return p
}

// faultAt: that a text has that fault, and no program.
func faultAt(t *testing.T, text string, err api.Errno, line, col int) {
	t.Helper()
	p, fault := parse.Parse(text)
	if fault != (api.Fault{Err: err, Line: line, Col: col}) || !same(p, api.Program{}) {
		t.Errorf("%.200q: %v, %+v; not %d at %d, %d", text, fault, p, err, line, col)
	}
}

// syntaxAt: that the first token that can't go on is the one behind the mark ^, which isn't of the text.
func syntaxAt(t *testing.T, marked string) {
	t.Helper()
	text, line, col := unmark(marked)
	faultAt(t, text, api.ErrSyntax, line, col)
}

// sizeAt: the like, of the first one that makes it too deep.
func sizeAt(t *testing.T, marked string) {
	t.Helper()
	text, line, col := unmark(marked)
	faultAt(t, text, api.ErrSize, line, col)
}

func unmark(marked string) (string, int, int) {
	ahead, behind, ok := strings.Cut(marked, "^")
	if !ok {
		panic(marked)
	}
	return ahead + behind, strings.Count(ahead, "\n") + 1, len(ahead) - strings.LastIndex(ahead, "\n")
}

// same: whether all fields are, a list that is nil being like an empty one.
func same[T any](a, b T) bool { return alike(reflect.ValueOf(a), reflect.ValueOf(b)) }

func alike(a, b reflect.Value) bool {
	switch a.Kind() {
	case reflect.Struct:
		for i := range a.NumField() {
			if !alike(a.Field(i), b.Field(i)) {
				return false
			}
		}
		return true
	case reflect.Slice:
		if a.Len() != b.Len() {
			return false
		}
		for i := range a.Len() {
			if !alike(a.Index(i), b.Index(i)) {
				return false
			}
		}
		return true
	}
	return a.Equal(b)
}

func want[T any](t *testing.T, text string, got, wanted T) {
	t.Helper()
	if !same(got, wanted) {
		t.Errorf("%q: %+v, not %+v", text, got, wanted)
	}
}

// body: the statements of a text that stands in a thread; its first line is the text's first.
func body(t *testing.T, text string) []api.Stmt {
	t.Helper()
	p := parsed(t, text+"}\nthread {}")
	if len(p.Threads) != 2 {
		t.Fatalf("%q: %+v", text, p)
	}
	return p.Threads[0].Body
}

// stmt: that a thread of this statement alone (it begins at 2, 1) has that.
func stmt(t *testing.T, text string, wanted api.Stmt) {
	t.Helper()
	wanted.Line, wanted.Col = 2, 1
	want(t, text, body(t, "thread {\n"+text), []api.Stmt{wanted})
}

// right: that a right side (it begins at 2, 1) is that.
func right(t *testing.T, text string, wanted api.Right) {
	t.Helper()
	wanted.Line, wanted.Col = 2, 1
	for _, head := range []string{"let x =\n", "var x =\n", "x =\n"} {
		want(t, text, body(t, "thread { "+head+text+";")[0].Right, wanted)
	}
}

// expr: that an expression (it begins at 2, 1) is that, wherever expressions may stand.
func expr(t *testing.T, text string, wanted api.Expr) {
	t.Helper()
	in := func(ahead, behind string, part func(s api.Stmt) api.Expr) {
		t.Helper()
		want(t, ahead+text+behind, part(body(t, "thread { "+ahead+"\n"+text+behind)[0]), wanted)
	}
	in("print", ";", func(s api.Stmt) api.Expr { return s.E })
	in("set g =", ";", func(s api.Stmt) api.Expr { return s.E })
	in("if", "{}", func(s api.Stmt) api.Expr { return s.E })
	in("x =", ";", func(s api.Stmt) api.Expr { return s.Right.E })
	in("let x = new ints", ";", func(s api.Stmt) api.Expr { return s.Right.E })
	in("set x[", "] = 1;", func(s api.Stmt) api.Expr { return s.Place.Index })
	in("let y = load x[", "];", func(s api.Stmt) api.Expr { return s.Right.Place.Index })
	in("call f(", ");", func(s api.Stmt) api.Expr { return s.Args[0] })
	in("call f(1,", ", 2);", func(s api.Stmt) api.Expr { return s.Args[1] })
	in("print (", ");", func(s api.Stmt) api.Expr { return s.E })
	in("print 1 + (", ");", func(s api.Stmt) api.Expr { return s.E.Kids[1] })
	in("print -(", ");", func(s api.Stmt) api.Expr { return s.E.Kids[0] })
}

// Parts of what is wanted, all of line 2.
func lit(n uint64, col int) api.Expr { return api.Expr{Op: api.Lit, N: n, Line: 2, Col: col} }

func name(s string, col int) api.Expr { return api.Expr{Op: api.Var, Name: s, Line: 2, Col: col} }

func pre(op, col int, kid api.Expr) api.Expr {
	return api.Expr{Op: op, Kids: []api.Expr{kid}, Line: 2, Col: col}
}

func bin(op num.Op, col int, a, b api.Expr) api.Expr {
	return api.Expr{Op: api.Binary, Bin: int(op), Kids: []api.Expr{a, b}, Line: 2, Col: col}
}

func ref(s string) api.Type { return api.Type{Kind: api.Ref, Rec: s} }

// P5.1: the chapter's example.
func TestExample(t *testing.T) {
	text := "thread { print 1 + 2 * 3; }"
	at := func(op int, n uint64, col int) api.Expr { return api.Expr{Op: op, N: n, Line: 1, Col: col} }
	product := api.Expr{Op: api.Binary, Bin: int(num.Mul), Kids: []api.Expr{at(api.Lit, 2, 20), at(api.Lit, 3, 24)}, Line: 1, Col: 22}
	sum := api.Expr{Op: api.Binary, Bin: int(num.Add), Kids: []api.Expr{at(api.Lit, 1, 16), product}, Line: 1, Col: 18}
	want(t, text, parsed(t, text), api.Program{Threads: []api.Thread{{Body: []api.Stmt{{Op: api.Print, E: sum, Line: 1, Col: 10}}, Line: 1, Col: 1}}})
}

// P5.1: a text without tokens is a program of none.
func TestEmpty(t *testing.T) {
	for _, text := range []string{"", " ", "\n\t\r", "// thread {", "//\n"} {
		want(t, text, parsed(t, text), api.Program{})
	}
}

// P5.1: records, with fields of each type, and of none.
func TestRecords(t *testing.T) {
	text := "record\nR { a: int; b\n: real;\n c: ints; d: R; e : Other; } record S{}"
	want(t, text, parsed(t, text), api.Program{Records: []api.Record{
		{Name: "R", Line: 2, Col: 1, Fields: []api.Named{
			{Name: "a", Type: api.Type{Kind: api.Int}, Line: 2, Col: 5},
			{Name: "b", Type: api.Type{Kind: api.Real}, Line: 2, Col: 13},
			{Name: "c", Type: api.Type{Kind: api.Ints}, Line: 4, Col: 2},
			{Name: "d", Type: ref("R"), Line: 4, Col: 11},
			{Name: "e", Type: ref("Other"), Line: 4, Col: 17},
		}},
		{Name: "S", Line: 4, Col: 37},
	}})
}

// P5.1: globals of each type.
func TestGlobals(t *testing.T) {
	text := "global a: int;\nglobal b: real; global\n c: ints;global d:D;"
	want(t, text, parsed(t, text), api.Program{Globals: []api.Named{
		{Name: "a", Type: api.Type{Kind: api.Int}, Line: 1, Col: 8},
		{Name: "b", Type: api.Type{Kind: api.Real}, Line: 2, Col: 8},
		{Name: "c", Type: api.Type{Kind: api.Ints}, Line: 3, Col: 2},
		{Name: "d", Type: ref("D"), Line: 3, Col: 17},
	}})
}

// P5.1: functions, of no parameters, one, and several.
func TestFuns(t *testing.T) {
	text := "fun\nf() {}\nfun g(a: int) { break; }\nfun h(a: real, b\n: ints,c:R) { }"
	want(t, text, parsed(t, text), api.Program{Funs: []api.Fun{
		{Name: "f", Line: 2, Col: 1},
		{Name: "g", Params: []api.Named{{Name: "a", Type: api.Type{Kind: api.Int}, Line: 3, Col: 7}}, Body: []api.Stmt{{Op: api.Break, Line: 3, Col: 17}}, Line: 3, Col: 5},
		{Name: "h", Params: []api.Named{
			{Name: "a", Type: api.Type{Kind: api.Real}, Line: 4, Col: 7},
			{Name: "b", Type: api.Type{Kind: api.Ints}, Line: 4, Col: 16},
			{Name: "c", Type: ref("R"), Line: 5, Col: 8},
		}, Line: 4, Col: 5},
	}})
}

// P5.1: threads, of no statements, one, and several.
func TestThreads(t *testing.T) {
	text := "thread {}\n thread\n{ break; } thread { break; continue; break; }"
	want(t, text, parsed(t, text), api.Program{Threads: []api.Thread{
		{Line: 1, Col: 1},
		{Body: []api.Stmt{{Op: api.Break, Line: 3, Col: 3}}, Line: 2, Col: 2},
		{Body: []api.Stmt{{Op: api.Break, Line: 3, Col: 21}, {Op: api.Continue, Line: 3, Col: 28}, {Op: api.Break, Line: 3, Col: 38}}, Line: 3, Col: 12},
	}})
}

// P5.1: items of all kinds, mixed: each kind stands in the order in which it came. More of them than a program may have are no fault of this layer, nor are names that are there already.
func TestItemsMixed(t *testing.T) {
	var text strings.Builder
	var wanted api.Program
	for i := range 60 {
		line, n := i+1, string(rune('a'+i*7%5))
		switch i * (i + 1) / 2 % 4 {
		case 0:
			text.WriteString("record " + n + " {}\n")
			wanted.Records = append(wanted.Records, api.Record{Name: n, Line: line, Col: 8})
		case 1:
			text.WriteString("global " + n + ": int;\n")
			wanted.Globals = append(wanted.Globals, api.Named{Name: n, Type: api.Type{Kind: api.Int}, Line: line, Col: 8})
		case 2:
			text.WriteString("fun " + n + "() {}\n")
			wanted.Funs = append(wanted.Funs, api.Fun{Name: n, Line: line, Col: 5})
		case 3:
			text.WriteString("thread { break; }\n")
			wanted.Threads = append(wanted.Threads, api.Thread{Body: []api.Stmt{{Op: api.Break, Line: line, Col: 10}}, Line: line, Col: 1})
		}
	}
	if len(wanted.Records) <= api.MaxRecords || len(wanted.Globals) <= api.MaxGlobals || len(wanted.Funs) <= api.MaxFuns || len(wanted.Threads) <= api.MaxThreads {
		t.Fatal("too few items")
	}
	want(t, text.String(), parsed(t, text.String()), wanted)
}

// P5.1: each kind of statement.
func TestStmts(t *testing.T) {
	calc := func(col int) api.Right { return api.Right{Op: api.Calc, E: lit(1, col), Line: 2, Col: col} }
	global := api.Place{Op: api.Global, Base: "g", Line: 2, Col: 5}
	stmt(t, "let x = 1;", api.Stmt{Op: api.Let, Name: "x", Right: calc(9)})
	stmt(t, "var x = 1;", api.Stmt{Op: api.VarStmt, Name: "x", Right: calc(9)})
	stmt(t, "x = 1;", api.Stmt{Op: api.Assign, Name: "x", Right: calc(5)})
	stmt(t, "set g = 1;", api.Stmt{Op: api.Set, Place: global, E: lit(1, 9)})
	stmt(t, "print 1;", api.Stmt{Op: api.Print, E: lit(1, 7)})
	stmt(t, "atomic {}", api.Stmt{Op: api.Atomic})
	stmt(t, "atomic { break; }", api.Stmt{Op: api.Atomic, Body: []api.Stmt{{Op: api.Break, Line: 2, Col: 10}}})
	stmt(t, "break;", api.Stmt{Op: api.Break})
	stmt(t, "break out;", api.Stmt{Op: api.Break, Name: "out"})
	stmt(t, "continue;", api.Stmt{Op: api.Continue})
	stmt(t, "continue out;", api.Stmt{Op: api.Continue, Name: "out"})
	stmt(t, "call f();", api.Stmt{Op: api.Call, Name: "f"})
	stmt(t, "call f(1);", api.Stmt{Op: api.Call, Name: "f", Args: []api.Expr{lit(1, 8)}})
	stmt(t, "call f(1,x,(2));", api.Stmt{Op: api.Call, Name: "f", Args: []api.Expr{lit(1, 8), name("x", 10), lit(2, 13)}})
}

// P5.1: an if with else and without, blocks of none included; one in another one's.
func TestIfs(t *testing.T) {
	brk := func(col int) []api.Stmt { return []api.Stmt{{Op: api.Break, Line: 2, Col: col}} }
	stmt(t, "if x {}", api.Stmt{Op: api.If, E: name("x", 4)})
	stmt(t, "if x { break; }", api.Stmt{Op: api.If, E: name("x", 4), Body: brk(8)})
	stmt(t, "if x { break; } else {}", api.Stmt{Op: api.If, E: name("x", 4), Body: brk(8)})
	stmt(t, "if x {} else { break; }", api.Stmt{Op: api.If, E: name("x", 4), Else: brk(16)})
	stmt(t, "if x { break; } else { break; }", api.Stmt{Op: api.If, E: name("x", 4), Body: brk(8), Else: brk(24)})
	inner := api.Stmt{Op: api.If, E: name("y", 11), Else: brk(23), Line: 2, Col: 8}
	stmt(t, "if x { if y {} else { break; } }", api.Stmt{Op: api.If, E: name("x", 4), Body: []api.Stmt{inner}})
	inner = api.Stmt{Op: api.If, E: name("y", 11), Line: 2, Col: 8}
	stmt(t, "if x { if y {} } else { break; }", api.Stmt{Op: api.If, E: name("x", 4), Body: []api.Stmt{inner}, Else: brk(25)})
	two := body(t, "thread {\nif x {} if y {} else {}")
	want(t, "two", two, []api.Stmt{{Op: api.If, E: name("x", 4), Line: 2, Col: 1}, {Op: api.If, E: name("y", 12), Line: 2, Col: 9}})
}

// P5.1: loops, with a label and with none; whatever the number is.
func TestLoops(t *testing.T) {
	stmt(t, "loop 3 {}", api.Stmt{Op: api.Loop, N: 3})
	stmt(t, "loop 0 { continue; }", api.Stmt{Op: api.Loop, Body: []api.Stmt{{Op: api.Continue, Line: 2, Col: 10}}})
	stmt(t, "loop 9223372036854775807 {}", api.Stmt{Op: api.Loop, N: 1<<63 - 1})
	stmt(t, "out: loop 101 {}", api.Stmt{Op: api.Loop, Name: "out", N: 101})
	stmt(t, "out\n:\nloop\n4{ break\nout; }", api.Stmt{Op: api.Loop, Name: "out", N: 4, Body: []api.Stmt{{Op: api.Break, Name: "out", Line: 5, Col: 4}}})
}

// P5.1: each kind of right side; its place is that of its first token, be it a bracket.
func TestRights(t *testing.T) {
	right(t, "load g", api.Right{Op: api.Load, Place: api.Place{Op: api.Global, Base: "g", Line: 2, Col: 6}})
	right(t, "new R", api.Right{Op: api.New, Name: "R"})
	right(t, "new ints 5", api.Right{Op: api.NewInts, E: lit(5, 10)})
	right(t, "new ints -5", api.Right{Op: api.NewInts, E: pre(api.Neg, 10, lit(5, 11))})
	right(t, "new ints 5 - 1", api.Right{Op: api.NewInts, E: bin(num.Sub, 12, lit(5, 10), lit(1, 14))})
	right(t, "size a", api.Right{Op: api.Size, Name: "a"})
	right(t, "7", api.Right{Op: api.Calc, E: lit(7, 1)})
	right(t, "x + 1", api.Right{Op: api.Calc, E: bin(num.Add, 3, name("x", 1), lit(1, 5))})
	right(t, "(x) < 1", api.Right{Op: api.Calc, E: bin(num.Lt, 5, name("x", 2), lit(1, 7))})
	right(t, "((x))", api.Right{Op: api.Calc, E: name("x", 3)})
	right(t, "real x", api.Right{Op: api.Calc, E: pre(api.ToReal, 1, name("x", 6))})
	right(t, "nil ints", api.Right{Op: api.Calc, E: api.Expr{Op: api.Nobody, Type: api.Type{Kind: api.Ints}, Line: 2, Col: 1}})
}

// P5.1: each kind of place, at its Base.
func TestPlaces(t *testing.T) {
	for text, p := range map[string]api.Place{
		"g":          {Op: api.Global, Base: "g"},
		"x.f":        {Op: api.Field, Base: "x", Field: "f"},
		"x . x":      {Op: api.Field, Base: "x", Field: "x"},
		"a[3]":       {Op: api.Elem, Base: "a", Index: lit(3, 3)},
		"a [ i+1 ]":  {Op: api.Elem, Base: "a", Index: bin(num.Add, 6, name("i", 5), lit(1, 7))},
		"a[(i)]":     {Op: api.Elem, Base: "a", Index: name("i", 4)},
		"a[i == -1]": {Op: api.Elem, Base: "a", Index: bin(num.Eq, 5, name("i", 3), pre(api.Neg, 8, lit(1, 9)))},
	} {
		p.Line, p.Col = 2, 1
		got := body(t, "thread { set\n"+text+"\n= 7; let x = load\n "+text+";")
		want(t, text, got[0], api.Stmt{Op: api.Set, Place: p, E: api.Expr{Op: api.Lit, N: 7, Line: 3, Col: 3}, Line: 1, Col: 10})
		r := got[1].Right
		if r.Op != api.Load || r.Line != 3 || r.Col != 14 || r.Place.Op != p.Op || r.Place.Line != 4 || r.Place.Col != 2 || r.Place.Base != p.Base || r.Place.Field != p.Field || r.Place.Index.Op != p.Index.Op {
			t.Errorf("%q: %+v", text, r)
		}
	}
}

// P5.1: each kind of atom. The bits of a real stay as they are, of no number, too.
func TestAtoms(t *testing.T) {
	for text, e := range map[string]api.Expr{
		"0":                           {Op: api.Lit},
		"9223372036854775807":         {Op: api.Lit, N: 1<<63 - 1},
		"#0000000000000000":           {Op: api.LitReal},
		"#3ff0000000000000":           {Op: api.LitReal, N: 0x3ff0000000000000},
		"#ffffffffffffffff":           {Op: api.LitReal, N: 1<<64 - 1},
		"x":                           {Op: api.Var, Name: "x"},
		"input 0":                     {Op: api.Input},
		"input 16":                    {Op: api.Input, N: 16},
		"input\n 9223372036854775807": {Op: api.Input, N: 1<<63 - 1},
		"nil R":                       {Op: api.Nobody, Type: ref("R")},
		"nil ints":                    {Op: api.Nobody, Type: api.Type{Kind: api.Ints}},
		"nil\n\nints":                 {Op: api.Nobody, Type: api.Type{Kind: api.Ints}},
	} {
		e.Line, e.Col = 2, 1
		expr(t, text, e)
	}
}

// P5.1: sums and products of several are read from the left; each Binary stands at its sign.
func TestFromLeft(t *testing.T) {
	expr(t, "a - b - c", bin(num.Sub, 7, bin(num.Sub, 3, name("a", 1), name("b", 5)), name("c", 9)))
	expr(t, "a - b + c - d", bin(num.Sub, 11, bin(num.Add, 7, bin(num.Sub, 3, name("a", 1), name("b", 5)), name("c", 9)), name("d", 13)))
	expr(t, "a / b / c", bin(num.Div, 7, bin(num.Div, 3, name("a", 1), name("b", 5)), name("c", 9)))
	expr(t, "a*b/c%d", bin(num.Rem, 6, bin(num.Div, 4, bin(num.Mul, 2, name("a", 1), name("b", 3)), name("c", 5)), name("d", 7)))
	expr(t, "a % b * c", bin(num.Mul, 7, bin(num.Rem, 3, name("a", 1), name("b", 5)), name("c", 9)))
}

// P5.1: each sign's op, and place.
func TestSigns(t *testing.T) {
	for op, sign := range strings.Fields("+ - * / % == != < <=") {
		expr(t, "a "+sign+" b", bin(num.Op(op), 3, name("a", 1), name("b", 4+len(sign))))
	}
}

// P5.1: products within sums, sums within comparisons, and sums within brackets.
func TestBinds(t *testing.T) {
	expr(t, "a + b * c", bin(num.Add, 3, name("a", 1), bin(num.Mul, 7, name("b", 5), name("c", 9))))
	expr(t, "a * b + c", bin(num.Add, 7, bin(num.Mul, 3, name("a", 1), name("b", 5)), name("c", 9)))
	expr(t, "a*b-c/d", bin(num.Sub, 4, bin(num.Mul, 2, name("a", 1), name("b", 3)), bin(num.Div, 6, name("c", 5), name("d", 7))))
	expr(t, "a + b < c * d", bin(num.Lt, 7, bin(num.Add, 3, name("a", 1), name("b", 5)), bin(num.Mul, 11, name("c", 9), name("d", 13))))
	expr(t, "a <= b - c", bin(num.Le, 3, name("a", 1), bin(num.Sub, 8, name("b", 6), name("c", 10))))
	expr(t, "(a + b) * c", bin(num.Mul, 9, bin(num.Add, 4, name("a", 2), name("b", 6)), name("c", 11)))
	expr(t, "a - (b - c)", bin(num.Sub, 3, name("a", 1), bin(num.Sub, 8, name("b", 6), name("c", 10))))
	expr(t, "a / (b * c)", bin(num.Div, 3, name("a", 1), bin(num.Mul, 8, name("b", 6), name("c", 10))))
	expr(t, "(a < b) < c", bin(num.Lt, 9, bin(num.Lt, 4, name("a", 2), name("b", 6)), name("c", 11)))
	expr(t, "a == (b != c)", bin(num.Eq, 3, name("a", 1), bin(num.Ne, 9, name("b", 7), name("c", 12))))
	expr(t, "(a) + ((b))", bin(num.Add, 5, name("a", 2), name("b", 9)))
	expr(t, "nil R == nil ints", bin(num.Eq, 7, api.Expr{Op: api.Nobody, Type: ref("R"), Line: 2, Col: 1}, api.Expr{Op: api.Nobody, Type: api.Type{Kind: api.Ints}, Line: 2, Col: 10}))
}

// P5.1: prefixes of all kinds, several ahead of one atom; they bind more than any sign.
func TestPrefixes(t *testing.T) {
	expr(t, "-x", pre(api.Neg, 1, name("x", 2)))
	expr(t, "real x", pre(api.ToReal, 1, name("x", 6)))
	expr(t, "trunc x", pre(api.Trunc, 1, name("x", 7)))
	expr(t, "--x", pre(api.Neg, 1, pre(api.Neg, 2, name("x", 3))))
	expr(t, "-real-trunc x", pre(api.Neg, 1, pre(api.ToReal, 2, pre(api.Neg, 6, pre(api.Trunc, 7, name("x", 13))))))
	expr(t, "trunc real 1", pre(api.Trunc, 1, pre(api.ToReal, 7, lit(1, 12))))
	expr(t, "-1", pre(api.Neg, 1, lit(1, 2)))
	expr(t, "-input 3", pre(api.Neg, 1, api.Expr{Op: api.Input, N: 3, Line: 2, Col: 2}))
	expr(t, "-nil R", pre(api.Neg, 1, api.Expr{Op: api.Nobody, Type: ref("R"), Line: 2, Col: 2}))
	expr(t, "-a * b", bin(num.Mul, 4, pre(api.Neg, 1, name("a", 2)), name("b", 6)))
	expr(t, "-(a * b)", pre(api.Neg, 1, bin(num.Mul, 5, name("a", 3), name("b", 7))))
	expr(t, "a * -b", bin(num.Mul, 3, name("a", 1), pre(api.Neg, 5, name("b", 6))))
	expr(t, "a - -b", bin(num.Sub, 3, name("a", 1), pre(api.Neg, 5, name("b", 6))))
	expr(t, "a--b", bin(num.Sub, 2, name("a", 1), pre(api.Neg, 3, name("b", 4))))
	expr(t, "real a + b", bin(num.Add, 8, pre(api.ToReal, 1, name("a", 6)), name("b", 10)))
	expr(t, "trunc a < b", bin(num.Lt, 9, pre(api.Trunc, 1, name("a", 7)), name("b", 11)))
	expr(t, "-(-(a))", pre(api.Neg, 1, pre(api.Neg, 3, name("a", 5))))
}

// P5.1: brackets leave nothing, however many there are.
func TestBrackets(t *testing.T) {
	for n := range 10 {
		expr(t, strings.Repeat("(", n)+"x"+strings.Repeat(")", n), name("x", n+1))
	}
	expr(t, "((a) + (b))", bin(num.Add, 6, name("a", 3), name("b", 9)))
	expr(t, "(-x)", pre(api.Neg, 2, name("x", 3)))
	expr(t, "(((input 2)))", api.Expr{Op: api.Input, N: 2, Line: 2, Col: 4})
}

// P5.1: a second comparison behind one, of every two signs.
func TestOneComparison(t *testing.T) {
	signs := strings.Fields("== != < <=")
	for _, a := range signs {
		for _, b := range signs {
			syntaxAt(t, "thread { print x "+a+" y ^"+b+" z; }")
			syntaxAt(t, "thread { print x + 1 "+a+" y * 2 ^"+b+" z; }")
			syntaxAt(t, "thread { print (x "+a+" y ^"+b+" z); }")
			parsed(t, "thread { print (x "+a+" y) "+b+" z; }")
		}
	}
}

// P5.1: words where names belong, each of them, at each spot; and each name there.
func TestWordsAsNames(t *testing.T) {
	for _, text := range []string{
		"record @ {}", "record R { @: int; }", "record R { a: int; @: int; }", "global @: int;",
		"fun @() {}", "fun f(a: int, @: int) {}", "thread { let @ = 1; }", "thread { var @ = 1; }",
		"thread { set @ = 1; }", "thread { set x.@ = 1; }", "thread { let x = load @; }",
		"thread { let x = size @; }", "thread { call @(); }",
	} {
		for _, word := range words {
			syntaxAt(t, strings.Replace(text, "@", "^"+word, 1))
		}
		for _, n := range []string{"x", "_", "recordx", "Thread", "int0"} {
			parsed(t, strings.Replace(text, "@", n, 1))
		}
	}
	// Where words may stand, too, those that may not.
	for text, may := range map[string]string{
		"global g: @;":              "int real ints",
		"fun f(a: @) {}":            "int real ints",
		"record R { a: @; }":        "int real ints",
		"fun f(@: int) {}":          "",
		"thread { let x = new @; }": "", // ints may, but an expression must follow
		"thread { print nil @; }":   "ints",
		"thread { break @; }":       "",
		"thread { continue @; }":    "",
		"thread { print @; }":       "",
		"thread { @ = 1; }":         "",
		"thread { @: loop 1 {} }":   "",
	} {
		for _, word := range words {
			_, fault := parse.Parse(strings.Replace(text, "@", word, 1))
			wanted := api.ErrSyntax
			if slices.Contains(strings.Fields(may), word) {
				wanted = api.OK
			}
			if fault.Err != wanted {
				t.Errorf("%s, %s: %v", text, word, fault)
			}
		}
		parsed(t, strings.Replace(text, "@", "x", 1))
	}
}

var words = strings.Fields("record global fun thread let var set print if else loop break continue atomic call load new size int real ints nil input trunc")

// P5.1: tokens that can't go on what stands ahead.
func TestWrong(t *testing.T) {
	for _, marked := range []string{
		"^x", "^1", "^{}", "^;", "^int x;", "^let x = 1;", "thread {} ^}", "thread {} ^;", "global g: int; ^print 1;",
		"record ^{}", "record R ^;", "record R ^: int;", "record R { a ^int; }", "record R { a: ^; }", "record R { a: int ^}", "record R { a: int ^, b: int; }", "record R { ^; }", "record R {} ^;", "record R { a: int; ^record S {} }", "record R { a: ^1; }", "record R { a: int ^int; }",
		"global g ^;", "global g: int ^global h: int;", "global g: int ^= 1;", "global g: ^(int);",
		"fun f ^{}", "fun f(^,) {}", "fun f(a ^) {}", "fun f(a: int ^b: int) {}", "fun f(a: int, ^) {}", "fun f(a: int ^; b: int) {}", "fun f() ^;", "fun f() ^: int {}", "fun f(^1) {}", "fun ^(a: int) {}", "fun f(^(a: int)) {}",
		"thread ^x {}", "thread ^;", "thread ^print 1;", "thread {^{} }", "thread { ^; }", "thread { ^else {} }", "thread { ^thread {} }", "thread { ^1; }", "thread { ^(x) = 1; }", "thread { ^load g; }", "thread { ^new R; }", "thread { ^-1; }",
		"thread { let ^= 1; }", "thread { let x ^1; }", "thread { let x ^== 1; }", "thread { let x^: int = 1; }", "thread { let x = ^; }", "thread { let x = 1 ^}", "thread { let x = 1 ^let y = 1; }", "thread { let x = 1 ^2; }", "thread { let x = y ^= 1; }", "thread { let x^.f = 1; }",
		"thread { x ^; }", "thread { x ^+ 1; }", "thread { x ^.f = 1; }", "thread { x ^[0] = 1; }", "thread { x ^(); }", "thread { x ^== 1; }", "thread { x = ^= 1; }", "thread { x: ^x: loop 1 {} }", "thread { x: ^{} }", "thread { x: ^atomic {} }", "thread { x: ^; }",
		"thread { set ^1 = 2; }", "thread { set x ^; }", "thread { set x. ^1 = 1; }", "thread { set x.f ^.g = 1; }", "thread { set x.f ^[1] = 1; }", "thread { set x[1] ^.f = 1; }", "thread { set x[1] ^[2] = 1; }", "thread { set x[^] = 1; }", "thread { set x[1 ^= 1; }", "thread { set x[1 ^) = 1; }", "thread { set x[y ^[1]] = 1; }", "thread { set x = ^load y; }", "thread { set x = ^new R; }", "thread { set x = ^size y; }", "thread { set ^(x) = 1; }", "thread { set x = 1 ^}",
		"thread { print ^; }", "thread { print 1 ^, 2; }", "thread { print x ^.f; }", "thread { print x ^[1]; }", "thread { print f ^(1); }", "thread { print ^load x; }", "thread { print ^size x; }", "thread { print ^new ints 1; }", "thread { print 1 ^}",
		"thread { if ^{} }", "thread { if x ^; }", "thread { if x ^print 1; }", "thread { if x {} ^; }", "thread { if x {} else ^; }", "thread { if x {} else ^if y {} }", "thread { if x {} else {} ^else {} }", "thread { if (x ^{} }", "thread { if x ^= 1 {} }",
		"thread { atomic ^; }", "thread { atomic ^x {} }", "thread { atomic {} ^else {} }",
		"thread { loop ^{} }", "thread { loop ^x {} }", "thread { loop ^-1 {} }", "thread { loop ^(1) {} }", "thread { loop ^#0000000000000000 {} }", "thread { loop 1 ^; }", "thread { loop 1 ^+ 1 {} }", "thread { loop 1 {} ^; }",
		"thread { break ^}", "thread { break ^1; }", "thread { break x ^y; }", "thread { continue ^}", "thread { continue ^break; }", "thread { continue x ^, y; }",
		"thread { call ^; }", "thread { call f ^; }", "thread { call f(^; }", "thread { call f(^,); }", "thread { call f(1 ^; }", "thread { call f(1 ^2); }", "thread { call f(1, ^); }", "thread { call f(1) ^}", "thread { call f((1) ^]; }", "thread { call ^(f)(); }", "thread { call f^.g(); }", "thread { call f() ^(); }", "thread { call f(^load g); }",
		"thread { x = load ^1; }", "thread { x = load g ^+ 1; }", "thread { x = load ^(g); }", "thread { x = load g.^; }", "thread { x = load ^load g; }", "thread { x = new ^; }", "thread { x = new ^int; }", "thread { x = new ints ^; }", "thread { x = new R ^(); }", "thread { x = new R ^5; }", "thread { x = new ^(R); }", "thread { x = size ^; }", "thread { x = size a ^+ 1; }", "thread { x = size ^(a); }", "thread { x = size a ^.f; }", "thread { x = 1 + ^load g; }", "thread { x = ^]; }",
		"thread { print 1 + ^; }", "thread { print ^+ 1; }", "thread { print 1 * ^* 2; }", "thread { print ^* 2; }", "thread { print 1 + ^+ 2; }", "thread { print 1 ^= 2; }", "thread { print 1 ^1; }", "thread { print x ^y; }", "thread { print - ^; }", "thread { print -^+ 1; }", "thread { print real ^; }", "thread { print trunc ^int; }", "thread { print ^int x; }", "thread { print 1 ^real x; }", "thread { print x ^trunc y; }",
		"thread { print input ^; }", "thread { print input ^x; }", "thread { print input ^-1; }", "thread { print input ^(1); }", "thread { print input ^#0000000000000000; }", "thread { print nil ^; }", "thread { print nil ^int; }", "thread { print nil ^real; }", "thread { print nil ^nil; }", "thread { print nil ^(R); }", "thread { print nil ^1; }", "thread { print ^ints; }",
		"thread { print (^); }", "thread { print (1^; }", "thread { print (1 ^}", "thread { print 1^); }", "thread { print ((1) ^; }", "thread { print (1 ^]; }", "thread { print (1^, 2); }", "thread { print x ^: 1; }",
		"thread {\n\tprint 1;\n  ^2;\n}", "// note\nthread { }\n // }\n ^}", "thread { //^", "thread { // }\n^", "thread {\r\n\t^)", "thread { print 1\n\n^}",
	} {
		syntaxAt(t, marked)
	}
}

// samples: programs that have every rule of the chapter in them.
var samples = []string{
	"record R { a: int; b: real; c: ints; d: R; } record S {} global g: R; global h: int; global a: ints; global r: real;",
	"fun f() {} fun g(a: int) {} fun h(a: int, b: real, c: ints, d: R) { print a; }",
	"thread {} thread { let x = 1; var y = x; y = 2; set g = 3; set x.f = 4; set x[5] = 6; print 7; }",
	"thread { if x {} if y { print 1; } else {} if z {} else { print 2; } atomic {} atomic { print 3; } }",
	"thread { loop 1 {} out: loop 2 { break; break out; continue; continue out; } call f(); call g(1); call h(1, x, nil ints); }",
	"thread { let x = load g; let y = load g.f; let z = load g[1 + x]; var n = new R; var m = new ints 5 + 1; m = size n; }",
	"thread { print 1 + 2 - 3 * 4 / 5 % x; print a == b; print a != b + 1; print a < b * c; print a <= -b; }",
	"thread { print #3ff0000000000000; print input 3; print nil R; print nil ints; print (1); print ((1 + x) * (2 - (3))); }",
	"thread { print -1; print real x; print trunc real - - 1; print - ( - ( x ) ) * real ( 2 ) + trunc y; }",
	"fun f(a: R) { atomic { set a.v = - 1; } } global g: R; thread { call f(nil R); } record R { v: int; } thread { }",
}

// tokensOf: the tokens of a text, without the End.
func tokensOf(t *testing.T, text string) []lex.Token {
	t.Helper()
	tokens, fault := lex.Lex(text)
	if fault != (api.Fault{}) {
		t.Fatalf("%q: %v", text, fault)
	}
	return tokens[:len(tokens)-1]
}

// joined: the letters of tokens, with blanks between.
func joined(tokens []lex.Token) string {
	var out []string
	for _, k := range tokens {
		out = append(out, k.Text)
	}
	return strings.Join(out, " ")
}

// P5.1: texts that break off behind each token: told at the End, but where the text is one of whole items.
func TestBreakOff(t *testing.T) {
	for _, sample := range samples {
		parsed(t, sample)
		tokens := tokensOf(t, sample)
		depth := 0
		for i, k := range tokens {
			text := joined(tokens[:i+1])
			switch k.Text {
			case "{", "(", "[":
				depth++
			case "}", ")", "]":
				depth--
			}
			if depth == 0 && (k.Text == "}" || k.Text == ";") {
				parsed(t, text)
				continue
			}
			faultAt(t, text, api.ErrSyntax, 1, len(text)+1)
			faultAt(t, text+" \n // }\n\t", api.ErrSyntax, 3, 2)
		}
	}
}

// P5.1: every token that there is, behind each token of all samples, and what then follows.
func TestEachNext(t *testing.T) {
	next := append(strings.Fields("== != <= { } ( ) [ ] ; : , . = < + - * / % x 1 #0000000000000000"), words...)
	if len(next) != 47 {
		t.Fatal(len(next))
	}
	for _, sample := range samples {
		tokens := tokensOf(t, sample)
		s := atBegin()
		for i := 0; i <= len(tokens); i++ {
			ahead := joined(tokens[:i])
			for _, n := range next {
				one := tokensOf(t, n)[0]
				behind := s.step(one)
				text := ahead + " " + n
				switch {
				case len(behind) == 0:
					faultAt(t, text, api.ErrSyntax, 1, len(ahead)+2)
					faultAt(t, text+" "+joined(tokens[i:]), api.ErrSyntax, 1, len(ahead)+2)
				case behind.mayEnd():
					parsed(t, text)
				default:
					faultAt(t, text, api.ErrSyntax, 1, len(text)+1)
				}
			}
			if i < len(tokens) {
				s = s.step(tokens[i])
			}
		}
		if !s.mayEnd() {
			t.Errorf("%q", sample)
		}
	}
}

// P5.1: layer 3's faults stand ahead of all others, of such as stand earlier in the text, too.
func TestLexFirst(t *testing.T) {
	faultAt(t, "thread { let x = 007; }", api.ErrLex, 1, 18)
	faultAt(t, "x y z\n ! ", api.ErrLex, 2, 2)
	faultAt(t, "thread { print 1 } é", api.ErrLex, 1, 20)
	faultAt(t, "}}}\n}}} 1x #", api.ErrLex, 2, 5)
	faultAt(t, "thread { print "+strings.Repeat("(", 20)+" >", api.ErrLex, 1, 37)
	faultAt(t, "thread { print 9223372036854775808", api.ErrLex, 1, 16)
	faultAt(t, "x"+strings.Repeat(" ", api.MaxText), api.ErrSize, 1, 1)
	faultAt(t, strings.Repeat("\n", api.MaxText)+"!", api.ErrSize, 1, 1)
	faultAt(t, strings.Repeat(" ", api.MaxText+1), api.ErrSize, 1, 1)
	faultAt(t, "thread {}"+strings.Repeat(" ", api.MaxText-8), api.ErrSize, 1, 1)
	if p := parsed(t, "thread {}"+strings.Repeat(" ", api.MaxText-9)); len(p.Threads) != 1 {
		t.Errorf("%+v", p)
	}
	faultAt(t, strings.Repeat(" ", api.MaxText-1)+"x", api.ErrSyntax, 1, api.MaxText)
}
