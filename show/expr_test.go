package show_test

import (
	"math"
	"slices"
	"strings"
	"testing"

	"padlock/api"
	"padlock/num"
	"padlock/show"
)

// P6.1: each kind of type.
func TestTypes(t *testing.T) {
	for _, c := range []struct {
		of   api.Type
		want string
	}{
		{ofKind(api.Int), "int"}, {ofKind(api.Real), "real"}, {ofKind(api.Ints), "ints"},
		{ref("R"), "R"}, {ref("int"), "int"}, {ref("_a1"), "_a1"}, {ref(""), ""}, {ref("a b\n\t\x00é\xff"), "a b\n\t\x00é\xff"},
	} {
		want(t, show.Type(c.of), c.want)
	}
}

// P6.1: each kind of expression, and numbers at their edges.
func TestExprKinds(t *testing.T) {
	for _, c := range []struct {
		e    api.Expr
		want string
	}{
		{lit(0), "0"}, {lit(1), "1"}, {lit(10), "10"}, {lit(100), "100"}, {lit(math.MaxInt64), "9223372036854775807"},
		{bits(0), "#0000000000000000"}, {bits(1), "#0000000000000001"}, {bits(10), "#000000000000000a"}, {bits(16), "#0000000000000010"},
		{bits(1 << 60), "#1000000000000000"}, {bits(1<<60 - 1), "#0fffffffffffffff"}, {bits(1 << 63), "#8000000000000000"},
		{bits(math.MaxUint64), "#ffffffffffffffff"}, {bits(0x0123456789abcdef), "#0123456789abcdef"}, {bits(0xfedcba9876543210), "#fedcba9876543210"},
		{bits(num.NaN), "#7ff8000000000000"}, {bits(math.Float64bits(1)), "#3ff0000000000000"}, {bits(math.Float64bits(-1.5)), "#bff8000000000000"},
		{nobody(ofKind(api.Ints)), "nil ints"}, {nobody(ref("R")), "nil R"},
		{input(0), "input 0"}, {input(16), "input 16"}, {input(math.MaxInt64), "input 9223372036854775807"},
		{name("x"), "x"}, {name("_"), "_"}, {name("Loop_2"), "Loop_2"},
		{of(api.Neg, lit(1)), "-1"}, {of(api.ToReal, lit(1)), "real 1"}, {of(api.Trunc, bits(0)), "trunc #0000000000000000"},
		{bin(num.Add, lit(1), lit(2)), "1 + 2"}, {bin(num.Sub, name("x"), input(2)), "x - input 2"},
		{bin(num.Eq, name("x"), nobody(ref("R"))), "x == nil R"}, {bin(num.Ne, nobody(ofKind(api.Ints)), name("x")), "nil ints != x"},
	} {
		againExpr(t, c.e, c.want)
	}
}

// P6.1: names and numbers of any kind, in what is made and not parsed.
func TestAnyNamesAndNumbers(t *testing.T) {
	for _, c := range []struct {
		e    api.Expr
		want string
	}{
		{lit(1 << 63), "9223372036854775808"}, {lit(math.MaxUint64), "18446744073709551615"}, {input(math.MaxUint64), "input 18446744073709551615"},
		{name(""), ""}, {name("1 + 2"), "1 + 2"}, {name("(\n\t\"é\xff\x00"), "(\n\t\"é\xff\x00"}, {name("let"), "let"},
		{nobody(ref("")), "nil "}, {nobody(ref("a b")), "nil a b"}, {nobody(ref("ints")), "nil ints"},
		{of(api.Neg, name("a + b")), "-a + b"}, {of(api.ToReal, name("")), "real "}, {of(api.Trunc, name("")), "trunc "},
		{bin(num.Mul, name("a + b"), name("")), "a + b * "}, {bin(num.Le, name(""), name("")), " <= "},
	} {
		want(t, show.Expr(c.e), c.want)
	}
}

// kept: of which ops a Binary stands in brackets, as the first kid and as the second kid of each op.
var kept = []struct{ op, first, second string }{
	{"+", "== != < <=", "+ - == != < <="},
	{"-", "== != < <=", "+ - == != < <="},
	{"*", "+ - == != < <=", "+ - * / % == != < <="},
	{"/", "+ - == != < <=", "+ - * / % == != < <="},
	{"%", "+ - == != < <=", "+ - * / % == != < <="},
	{"==", "== != < <=", "== != < <="},
	{"!=", "== != < <=", "== != < <="},
	{"<", "== != < <=", "== != < <="},
	{"<=", "== != < <=", "== != < <="},
}

// inBrackets: a text, in brackets if the op's sign is one of those in a row.
func inBrackets(text, sign, row string) string {
	if slices.Contains(strings.Fields(row), sign) {
		return "(" + text + ")"
	}
	return text
}

// P6.1, P6.2: every op, with every op as its first kid, its second kid, and both.
func TestEveryPairOfOps(t *testing.T) {
	for outer, k := range kept {
		for inner, sign := range signs {
			first, second := inBrackets("1 "+sign+" 2", sign, k.first), inBrackets("1 "+sign+" 2", sign, k.second)
			kid := bin(num.Op(inner), lit(1), lit(2))
			againExpr(t, bin(num.Op(outer), kid, lit(3)), first+" "+k.op+" 3")
			againExpr(t, bin(num.Op(outer), lit(3), kid), "3 "+k.op+" "+second)
			againExpr(t, bin(num.Op(outer), kid, kid), first+" "+k.op+" "+second)
		}
	}
}

// P6.1: the ops' signs are in the order of layer 1's ops.
func TestSigns(t *testing.T) {
	for op, sign := range []string{"+", "-", "*", "/", "%", "==", "!=", "<", "<="} {
		want(t, show.Expr(api.Expr{Op: api.Binary, Bin: op, Kids: []api.Expr{name("a"), name("b")}}), "a "+sign+" b")
	}
}

// prefixes: what stands ahead of a kid.
var prefixes = map[int]string{api.Neg: "-", api.ToReal: "real ", api.Trunc: "trunc "}

// P6.1, P6.2: a Binary within a prefix keeps its brackets; a prefix within a Binary, or another prefix, has none.
func TestPrefixes(t *testing.T) {
	for op, text := range prefixes {
		for _, e := range []api.Expr{lit(7), bits(7), input(7), name("x"), nobody(ref("R")), nobody(ofKind(api.Ints))} {
			againExpr(t, of(op, e), text+show.Expr(e))
		}
		for b, sign := range signs {
			sum := bin(num.Op(b), lit(1), lit(2))
			againExpr(t, of(op, sum), text+"(1 "+sign+" 2)")
			againExpr(t, bin(num.Op(b), of(op, lit(1)), lit(2)), text+"1 "+sign+" 2")
			againExpr(t, bin(num.Op(b), lit(1), of(op, lit(2))), "1 "+sign+" "+text+"2")
			againExpr(t, bin(num.Op(b), of(op, sum), of(op, sum)), text+"(1 "+sign+" 2) "+sign+" "+text+"(1 "+sign+" 2)")
		}
		for inner, within := range prefixes {
			againExpr(t, of(op, of(inner, name("x"))), text+within+"x")
			againExpr(t, of(op, of(inner, bin(num.Mul, name("x"), of(op, lit(1))))), text+within+"(x * "+text+"1)")
		}
	}
}

// P6.1, P6.2: some longer ones, told by hand.
func TestLongerExprs(t *testing.T) {
	for from, to := range map[string]string{
		"1-(2-3)": "1 - (2 - 3)", "(1-2)-3": "1 - 2 - 3", "1-2-3": "1 - 2 - 3", "((1)-((2)))-(3)": "1 - 2 - 3",
		"1-(2-(3-4))": "1 - (2 - (3 - 4))", "(1-(2-3))-4": "1 - (2 - 3) - 4", "1+(2*3)": "1 + 2 * 3", "(1*2)+3": "1 * 2 + 3",
		"1*(2*(3*4))": "1 * (2 * (3 * 4))", "((1*2)*3)*4": "1 * 2 * 3 * 4", "1/2*3%4": "1 / 2 * 3 % 4", "1%(2/3)": "1 % (2 / 3)",
		"a+b<c-d": "a + b < c - d", "(a+b)<(c-d)": "a + b < c - d", "a*b==c%d": "a * b == c % d", "(a<b)<c": "(a < b) < c", "a<(b<c)": "a < (b < c)",
		"(a==b)+(c!=d)": "(a == b) + (c != d)", "a*(b<=c)": "a * (b <= c)", "(a<b)*c": "(a < b) * c",
		"- - -x": "---x", "-(-(x))": "--x", "-(x+1)*2": "-(x + 1) * 2", "(-x)*2": "-x * 2", "-(x*2)": "-(x * 2)", "1- -1": "1 - -1", "1-(-1)": "1 - -1",
		"real trunc -x": "real trunc -x", "real(trunc(-(x)))": "real trunc -x", "real(1)/real(2)": "real 1 / real 2", "real(1/2)": "real (1 / 2)",
		"trunc(#0000000000000000<#8000000000000000)": "trunc (#0000000000000000 < #8000000000000000)",
		"nil R==(nil R)": "nil R == nil R", "input 1+input 2": "input 1 + input 2", "(((((((((((7)))))))))))": "7",
	} {
		p := parsed(t, "thread { print "+from+"; }")
		againExpr(t, p.Threads[0].Body[0].E, to)
	}
}

// P6.1: the chapter's examples.
func TestExamples(t *testing.T) {
	one, two, three := lit(1), lit(2), lit(3)
	againExpr(t, bin(num.Sub, one, bin(num.Sub, two, three)), "1 - (2 - 3)")
	againExpr(t, bin(num.Sub, bin(num.Sub, one, two), three), "1 - 2 - 3")
}
